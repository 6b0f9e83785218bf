/- Worlds that differ in one block and one row at most; append and stores, told with where what they make lies. -/
import Derived.Test.YtlhncfjeleibmaaOwn
import Derived.Test.YtlhncfjeleibmaaWhole
namespace Go.Proofs.Ytlhncfjeleibmaa
open Go.RowKit

theorem ret_i64 {a b : Int} (h : a = b) : Ending.returned (.int .i64 a) = .returned (.int .i64 b) := by rw [h]
/-- Everything that was there is there as it was, but block g and block ob. -/
structure Mod (w w' : World) (g : Nat) (ob : Option Nat) : Prop where
  os : w'.os = w.os
  tape : w'.tape = w.tape
  output : w'.output = w.output
  size : w.heap.size ≤ w'.heap.size
  block : ∀ k, k < w.heap.size → k ≠ g → some k ≠ ob → w'.heap[k]? = w.heap[k]?
/-- The own block is the one that it was, or was made since. -/
def NewOb (w : World) (ob ob' : Option Nat) : Prop := ob' = ob ∨ ∃ n, ob' = some n ∧ w.heap.size ≤ n
theorem NewOb.same (w : World) (ob : Option Nat) : NewOb w ob ob := .inl rfl
theorem NewOb.trans {a b : World} {o1 o2 o3 : Option Nat} (h : NewOb a o1 o2) (hs : a.heap.size ≤ b.heap.size) (k : NewOb b o2 o3) : NewOb a o1 o3 := by
  rcases k with rfl | ⟨n, rfl, hn⟩
  · exact h
  · exact .inr ⟨n, rfl, by omega⟩
theorem NewOb.ne {w : World} {ob ob' : Option Nat} (h : NewOb w ob ob') {g : Nat} (hg : g < w.heap.size) (ho : ob ≠ some g) : ob' ≠ some g := by
  rcases h with rfl | ⟨n, rfl, hn⟩
  · exact ho
  · intro e
    injection e with e
    omega
theorem NewOb.le {w : World} {ob ob' : Option Nat} (h : NewOb w ob ob') {b : Nat} (hb : b ≤ w.heap.size) (ho : ∀ k, ob = some k → b ≤ k) : ∀ k, ob' = some k → b ≤ k := by
  rcases h with rfl | ⟨n, rfl, hn⟩
  · exact ho
  · intro k e
    injection e with e
    omega
section
variable {a b c w w' : World} {g : Nat} {ob ob' : Option Nat}
theorem Mod.refl (w : World) (g : Nat) (ob : Option Nat) : Mod w w g ob := ⟨rfl, rfl, rfl, Nat.le_refl _, fun _ _ _ _ => rfl⟩
theorem Mod.trans (h : Mod a b g ob) (k : Mod b c g ob') (ho : NewOb a ob ob') : Mod a c g ob :=
  ⟨k.os.trans h.os, k.tape.trans h.tape, k.output.trans h.output, Nat.le_trans h.size k.size, fun i hi hg hb =>
    (k.block i (Nat.lt_of_lt_of_le hi h.size) hg (fun e => ho.ne hi (fun e' => hb e'.symm) e.symm)).trans (h.block i hi hg hb)⟩
theorem Mod.ofRow (h : w.grownBy w' (some g)) : Mod w w' g ob := ⟨h.os, h.tape, h.output, h.size, fun k hk hg _ => h.block k hk (fun e => hg (by injection e))⟩
theorem Mod.ofOwn (h : w.grownBy w' ob) : Mod w w' g ob := ⟨h.os, h.tape, h.output, h.size, fun k hk _ ho => h.block k hk ho⟩
theorem Mod.ofExt (h : Ext w w') : Mod w w' g ob := ⟨h.os, h.tape, h.output, h.size, fun k hk _ _ => h.block k hk⟩
theorem Mod.drew (w : World) : Mod w w.drew g ob := Mod.ofExt (Ext.refl w).drew
theorem Mod.below (h : Mod a b g ob) {B : Nat} (hB : B ≤ a.heap.size) (hg : B ≤ g) (ho : ∀ k, ob = some k → B ≤ k) : Below B a b :=
  ⟨h.os, h.tape, h.output, h.size, fun k hk => h.block k (by omega) (by omega) (fun e => by have := ho k e.symm; omega)⟩
theorem Mod.whole (h : Mod w w' g ob) {x : Nat} {t : TypeId} {cs : Array Value} (hw : Whole w x t cs) (hg : x ≠ g) (ho : ob ≠ some x) : Whole w' x t cs := (h.block x hw.lt hg (fun e => ho e.symm)).trans hw
theorem Mod.own (h : Mod w w' g ob) {base : Nat} {v : Value} {l : List UInt8} (hv : OwnB w base v l) (hg : v.ownBlock ≠ some g) (ho : v.ownBlock = none ∨ v.ownBlock ≠ ob) : OwnB w' base v l := by
  refine ⟨hv.1, ?_⟩
  rcases hv.2 with hn | ⟨x, cap, cur, rfl, hb, hgg, rest⟩
  · exact .inl hn
  · refine .inr ⟨x, cap, cur, rfl, hb, ?_, rest⟩
    rw [h.block x (Array.getElem?_eq_some_iff.1 hgg).1 (by intro e; subst e; simp [Value.ownBlock] at hg) (by
      intro e
      rcases ho with ho | ho
      · simp [Value.ownBlock] at ho
      · exact ho (by simpa [Value.ownBlock] using e))]
    exact hgg
theorem Mod.cell (h : Mod w w' g ob) {x i : Nat} (hx : x < w.heap.size) (hg : x ≠ g) (ho : ob ≠ some x) : w'.cell? ⟨x, i, none⟩ = w.cell? ⟨x, i, none⟩ :=
  World.cell?_of_block (a := ⟨x, i, none⟩) (h.block x hx hg (fun e => ho e.symm))
end
theorem OwnB.newOb {w : World} {base : Nat} {v : Value} {l : List UInt8} (h : OwnB w base v l) : ∀ k, v.ownBlock = some k → base ≤ k := fun k hk => (h.lt k hk).1
theorem OwnB.ltOb {w : World} {base : Nat} {v : Value} {l : List UInt8} (h : OwnB w base v l) : ∀ k, v.ownBlock = some k → k < w.heap.size := fun k hk => (h.lt k hk).2
theorem OwnB.far {w : World} {base g : Nat} {v : Value} {l : List UInt8} (h : OwnB w base v l) (hg : v.ownBlock ≠ some g) (i : Nat) (u : Value) : OwnB (w.setCell ⟨g, i, none⟩ u) base v l :=
  (Mod.ofRow (ob := none) (show w.grownBy (w.setCell ⟨g, i, none⟩ u) (some g) from ⟨rfl, rfl, rfl, by simp, fun k _ hk => Below.heap_setCell w ⟨g, i, none⟩ u k (fun e => hk (by rw [e]))⟩)).own h hg (by cases v.ownBlock <;> simp)
theorem grown_setCell (w : World) (g i : Nat) (u : Value) : w.grownBy (w.setCell ⟨g, i, none⟩ u) (some g) := ⟨rfl, rfl, rfl, by simp, fun k _ hk => Below.heap_setCell w ⟨g, i, none⟩ u k (fun e => hk (by rw [e]))⟩

/-- append of bytes, wherever they lie; where what comes back lies. -/
theorem app_run_at {w : World} (ty : TypeId) {base : Nat} {v : Value} {l : List UInt8} (hown : OwnB w base v l) {A : Option Addr} {m : Nat} {k : List UInt8} (c : Nat) (hb : Bytes w w.heap.size A m k)
    (hlen : l.length + m ≤ 140737488355328) (hbase : base ≤ w.heap.size) :
    ∃ v' w', (Builtin.append_ #[33, 33] ty #[v, .slice A m c]).run Try.prog w = .ok v' w' ∧ OwnB w' base v' (l ++ k) ∧ w.grownBy w' v.ownBlock ∧ NewOb w v.ownBlock v'.ownBlock := by
  obtain ⟨hk, hb⟩ := hb
  rcases hb with rfl | ⟨b, off, rfl, hB, hc⟩
  · obtain rfl := List.eq_nil_of_length_eq_zero hk
    exact ⟨v, w, run_append_zero w ty base v l hown A c, by simpa using hown, World.grownBy.refl w _, .inl rfl⟩
  · obtain ⟨i, hi, hz, hs, hby⟩ := info_parts byte_info
    obtain ⟨v', w', hr, h2, h3, _, h5⟩ := run_append_own_at (P := Try.prog) w base 33 ty 5 i _ 1 1 Try.underlying33 hi hz hs hby rfl (by omega) v l.length (l.map byteV) hown
      ⟨b, off, none⟩ m c (k.map byteV) (by simpa using hk) (by
        intro j u hu
        have hj : j < m := by
          rcases Nat.lt_or_ge j m with h | h
          · exact h
          · rw [List.getElem?_eq_none (by simp; omega)] at hu; cases hu
        have hadd : (⟨b, off, none⟩ : Addr).add j = ⟨b, off + j, none⟩ := by unfold Addr.add; split <;> simp_all
        rw [hadd, hc j hj]
        rw [List.getElem?_map, List.getElem?_eq_getElem (by omega)] at hu
        rw [List.getD_eq_getElem?_getD, List.getElem?_eq_getElem (by omega)]
        simpa [byteV] using hu) (by
        intro u hu
        obtain ⟨x, _, rfl⟩ := List.mem_map.1 hu
        rfl) (by unfold maxLen; omega) (by omega) hbase
    refine ⟨v', w', hr, ?_, h3, h5.imp id fun h => ⟨_, h, Nat.le_refl _⟩⟩
    unfold OwnB
    rw [List.length_append, hk, List.map_append]
    exact h2
theorem zeroCells_byte (n : Nat) : Builtin.zeroCells (Value.int .u8 0).cells n = ((List.replicate n (0 : UInt8)).map byteV).toArray := by
  apply Array.ext
  · rw [size_zeroCells]; simp [Value.cells]
  · intro i h1 h2
    simp [Builtin.zeroCells, Value.cells, byteV, Nat.mod_one]
/-- append of n bytes 0. -/
theorem app_zero_run {w : World} (ty : TypeId) {base : Nat} {v : Value} {l : List UInt8} (hown : OwnB w base v l) (n : Nat) (hlen : l.length + n ≤ 140737488355328) (hbase : base ≤ w.heap.size) :
    ∃ v' w', (Builtin.append_ #[33, 3] ty #[v, .int .i64 n]).run Try.prog w = .ok v' w' ∧ OwnB w' base v' (l ++ List.replicate n 0) ∧ w.grownBy w' v.ownBlock ∧ NewOb w v.ownBlock v'.ownBlock := by
  obtain ⟨i, hi, hz, hs, hby⟩ := info_parts byte_info
  have hw : IntKind.i64.wrap (n : Int) = n := by rw [IntKind.wrap_i64]; omega
  have hneg : ¬ ((n : Int) < 0) := by omega
  have hw0 : IntKind.i64.wrap 0 = 0 := by rw [IntKind.wrap_i64]; omega
  have h48i : ¬ (281474976710656 < (n : Int)) := by omega
  have hsz : Try.prog.info? 5 = some i := hi
  -- what the growing arm leaves
  have grown : ∀ (old : Nat), old < l.length + n → ∀ (row : Option Nat),
      OwnB (w.drew.alloc (.cells ((l.map byteV).toArray ++ Builtin.zeroCells (Value.int .u8 0).cells n ++ Builtin.zeroCells (Value.int .u8 0).cells (grownCap w (l.length + n) old 5 - (l.length + n))) 5)) base
        (.slice (some ⟨w.heap.size, 0, none⟩) (l.length + n) (grownCap w (l.length + n) old 5)) (l ++ List.replicate n 0) ∧
      w.grownBy (w.drew.alloc (.cells ((l.map byteV).toArray ++ Builtin.zeroCells (Value.int .u8 0).cells n ++ Builtin.zeroCells (Value.int .u8 0).cells (grownCap w (l.length + n) old 5 - (l.length + n))) 5)) row := by
    intro old ho row
    have hge := grownCap_ge w (l.length + n) old 5
    have hcm : grownCap w (l.length + n) old 5 ≤ maxLen := grownCap_le_maxLen w (l.length + n) old 5 (by unfold maxLen; omega)
    refine ⟨?_, ⟨rfl, rfl, rfl, by simp, fun k hk _ => Below.heap_alloc w.drew _ k hk⟩⟩
    unfold OwnB
    rw [List.length_append, List.length_replicate]
    refine ⟨by simp, .inr ⟨w.heap.size, _, _, rfl, hbase, heap_alloc_new w.drew _, hge, hcm, ?_, ?_⟩⟩
    · simp only [Array.size_append, size_zeroCells]
      simp [Value.cells]
      omega
    · rw [zeroCells_byte n, List.map_append]
      simp only [Array.toList_append, Nat.mul_one]
      rw [List.take_append_of_le_length (by simp), List.take_of_length_le (by simp)]
  rcases hown.2 with ⟨rfl, h0⟩ | ⟨g, cap, cur, rfl, hbg, hg, hnc, hcm, hcs, htake⟩
  · have hl : l = [] := List.eq_nil_of_length_eq_zero h0
    subst hl
    by_cases hn : n = 0
    · subst hn
      refine ⟨.slice none 0 0, w, ?_, by simpa using hown, World.grownBy.refl w _, .inl rfl⟩
      simp [Builtin.append_, run_underlying Try.underlying33, run_underlying Try.underlying3, sizeOf, typeInfo, hsz, asInt, asIntOf, hby, hw0]
    · have h48' : ¬ (281474976710656 < Builtin.nextslicecap n 0) := by rw [nextslicecap_zero (by omega)]; omega
      have h63' : ¬ (9223372036854775807 < (n : Int)) := by omega
      have hgr := grown 0 (by simp; omega) (Value.ownBlock (.slice none 0 0))
      simp only [List.length_nil, Nat.zero_add, List.map_nil, List.nil_append, Array.empty_append] at hgr ⊢
      refine ⟨_, _, ?_, hgr.1, hgr.2, .inr ⟨_, rfl, Nat.le_refl _⟩⟩
      simp [Builtin.append_, run_underlying Try.underlying33, run_underlying Try.underlying3, sizeOf, typeInfo, zeroValue, hsz, hz, asInt, asIntOf, hs, hby, hw, hneg, h48i, hn, h48', h63', Question.forced, run_firstCells_none, newRow, grownCap]
  · by_cases hroom : l.length + n ≤ cap
    · by_cases hn : n = 0
      · subst hn
        refine ⟨_, w, ?_, by simpa using hown, World.grownBy.refl w _, .inl rfl⟩
        simp [Builtin.append_, run_underlying Try.underlying33, run_underlying Try.underlying3, sizeOf, typeInfo, hsz, asInt, asIntOf, hw0, hnc, storeCells]
      have hst := run_storeCells_at Try.prog g l.length 5 ((List.replicate n (0 : UInt8)).map byteV) 0 cur w hg (by simp; omega) (by
        intro u hu
        obtain ⟨x, _, rfl⟩ := List.mem_map.1 hu
        rfl)
      have hsr := setRow_heap w g cur ((cur.toList.take (l.length + 0) ++ (List.replicate n (0 : UInt8)).map byteV ++ cur.toList.drop (l.length + 0 + ((List.replicate n (0 : UInt8)).map byteV).length)).toArray) _ _ hg
      have hzc : (Builtin.zeroCells (Value.int .u8 0).cells n).toList = (List.replicate n (0 : UInt8)).map byteV := by rw [zeroCells_byte]
      refine ⟨.slice (some ⟨g, 0, none⟩) (l.length + n) cap, w.setRow g ((cur.toList.take (l.length + 0) ++ (List.replicate n (0 : UInt8)).map byteV ++ cur.toList.drop (l.length + 0 + ((List.replicate n (0 : UInt8)).map byteV).length)).toArray), ?_, ?_,
        ⟨rfl, rfl, rfl, by simp, fun k _ hk => setRow_other w g k _ (fun e => hk (by simp [Value.ownBlock, e]))⟩, .inl rfl⟩
      · simp [Builtin.append_, run_underlying Try.underlying33, run_underlying Try.underlying3, sizeOf, typeInfo, zeroValue, hsz, hz, asInt, asIntOf, hs, hby, hw, hneg, h48i, hn, hroom, Addr.add_lit, hzc, -List.map_replicate]
        rw [hst]
        simp [-List.map_replicate]
      · unfold OwnB
        rw [List.length_append, List.length_replicate]
        refine ⟨by simp, .inr ⟨g, cap, _, rfl, hbg, hsr, hroom, hcm, ?_, ?_⟩⟩
        · simp; omega
        · rw [Nat.mul_one] at htake
          rw [Nat.add_zero, htake, List.map_append, Nat.mul_one]
          rw [List.take_append_of_le_length (by simp), List.take_of_length_le (by simp)]
    · have hlo : (l.map byteV).length = l.length * i.size := by rw [hs]; simp
      have hfo := run_firstCells_some (P := Try.prog) w.drew i.size l.length ⟨g, 0, none⟩ l.length cap (l.map byteV) hlo (by simpa using hown.cells (g := g) rfl)
      have hgr := grown cap (by omega) (Value.ownBlock (.slice (some ⟨g, 0, none⟩) l.length cap))
      have hn : n ≠ 0 := by omega
      have h63' : ¬ (9223372036854775807 < ((l.length : Int) + (n : Int))) := by omega
      have h48' : ¬ (281474976710656 < Builtin.nextslicecap (l.length + n) cap) := by
        have := growslice_fits (need := l.length + n) (old := cap) (bytes := 1) (by omega) (by omega)
        omega
      refine ⟨_, _, ?_, hgr.1, hgr.2, .inr ⟨_, rfl, Nat.le_refl _⟩⟩
      simp [Builtin.append_, run_underlying Try.underlying33, run_underlying Try.underlying3, sizeOf, typeInfo, zeroValue, hsz, hz, asInt, asIntOf, hs, hby, hw, hneg, h48i, hn, hroom, h63', h48', Question.forced, newRow, grownCap]
      rw [hs] at hfo
      simp [hfo]
section
variable {o : Oper} {a : Act} {K : Act → World → Prop} {Q : Exit → Act → World → Prop} {w : World} {base : Nat} {v : Value} {l : List UInt8}
theorem wp_appAt (s x : Operand) (ho : o.op = .call { callee := .builtin .append, args := #[s, x], argTypes := #[33, 33] }) (hs : a.eval s = v) (hown : OwnB w base v l)
    {A : Option Addr} {m c : Nat} {k : List UInt8} (hx : a.eval x = .slice A m c) (hb : Bytes w w.heap.size A m k) (hlen : l.length + m ≤ 140737488355328) (hbase : base ≤ w.heap.size)
    (h : ∀ v' w', OwnB w' base v' (l ++ k) → w.grownBy w' v.ownBlock → NewOb w v.ownBlock v'.ownBlock → K (a.put o.dst v') w') : o.wp Try.prog a w K Q := by
  obtain ⟨v', w', hr, h2, h3, h4⟩ := app_run_at o.type hown c hb hlen hbase
  unfold Oper.wp execOp
  simp only [ho, resolve, invoke, builtin, Sem.run_bind, Sem.run_pure, Result.andThen_ok, List.map_toArray, List.map_cons, List.map_nil, hs, hx, hr]
  exact h v' w' h2 h3 h4
theorem wp_zerosAt (s x : Operand) (ho : o.op = .call { callee := .builtin .append, args := #[s, x], argTypes := #[33, 3] }) (hs : a.eval s = v) (hown : OwnB w base v l)
    (n : Nat) (hx : a.eval x = .int .i64 n) (hlen : l.length + n ≤ 140737488355328) (hbase : base ≤ w.heap.size)
    (h : ∀ v' w', OwnB w' base v' (l ++ List.replicate n 0) → w.grownBy w' v.ownBlock → NewOb w v.ownBlock v'.ownBlock → K (a.put o.dst v') w') : o.wp Try.prog a w K Q := by
  obtain ⟨v', w', hr, h2, h3, h4⟩ := app_zero_run o.type hown n hlen hbase
  unfold Oper.wp execOp
  simp only [ho, resolve, invoke, builtin, Sem.run_bind, Sem.run_pure, Result.andThen_ok, List.map_toArray, List.map_cons, List.map_nil, hs, hx, hr]
  exact h v' w' h2 h3 h4
theorem wpList_appAt {ops : Array Oper} {rest : List Oper} (hgd : o.guard = none) (s x : Operand) (ho : o.op = .call { callee := .builtin .append, args := #[s, x], argTypes := #[33, 33] }) (hs : a.eval s = v) (hown : OwnB w base v l)
    {A : Option Addr} {m c : Nat} {k : List UInt8} (hx : a.eval x = .slice A m c) (hb : Bytes w w.heap.size A m k) (hlen : l.length + m ≤ 140737488355328) (hbase : base ≤ w.heap.size)
    (h : ∀ v' w', OwnB w' base v' (l ++ k) → w.grownBy w' v.ownBlock → NewOb w v.ownBlock v'.ownBlock → wpList Try.prog ops Q rest (a.put o.dst v') w') : wpList Try.prog ops Q (o :: rest) a w :=
  wpList_plain hgd fun _ hK => wp_appAt s x ho hs hown hx hb hlen hbase fun v' w' h2 h3 h4 => hK _ _ (h v' w' h2 h3 h4)
theorem step_appAt {ops : Array Oper} {E : Prop} (hgd : o.guard = none) (s x : Operand) (ho : o.op = .call { callee := .builtin .append, args := #[s, x], argTypes := #[33, 33] }) (hs : a.eval s = v) (hown : OwnB w base v l)
    {A : Option Addr} {m c : Nat} {k : List UInt8} (hx : a.eval x = .slice A m c) (hb : Bytes w w.heap.size A m k) (hlen : l.length + m ≤ 140737488355328) (hbase : base ≤ w.heap.size)
    (h : ∀ v' w', OwnB w' base v' (l ++ k) → w.grownBy w' v.ownBlock → NewOb w v.ownBlock v'.ownBlock → K (a.put o.dst v') w') :
    if Region.wanted o (yielded ops a.tmps) = true then Oper.wp Try.prog o a w K Q else E := by
  have hw : Region.wanted o (yielded ops a.tmps) = true := by simp [Region.wanted, hgd]
  rw [if_pos hw]
  exact wp_appAt s x ho hs hown hx hb hlen hbase h
theorem step_zerosAt {ops : Array Oper} {E : Prop} (hgd : o.guard = none) (s x : Operand) (ho : o.op = .call { callee := .builtin .append, args := #[s, x], argTypes := #[33, 3] }) (hs : a.eval s = v) (hown : OwnB w base v l)
    (n : Nat) (hx : a.eval x = .int .i64 n) (hlen : l.length + n ≤ 140737488355328) (hbase : base ≤ w.heap.size)
    (h : ∀ v' w', OwnB w' base v' (l ++ List.replicate n 0) → w.grownBy w' v.ownBlock → NewOb w v.ownBlock v'.ownBlock → K (a.put o.dst v') w') :
    if Region.wanted o (yielded ops a.tmps) = true then Oper.wp Try.prog o a w K Q else E := by
  have hw : Region.wanted o (yielded ops a.tmps) = true := by simp [Region.wanted, hgd]
  rw [if_pos hw]
  exact wp_zerosAt s x ho hs hown n hx hlen hbase h
end
theorem Whole.at {w : World} {g : Nat} {t : TypeId} {cs : Array Value} (h : Whole w g t cs) (i : Nat) {u : Value} (hu : cs[i]? = some u) : w.cell? ⟨g, i, none⟩ = some u := (h.cell i).trans hu
theorem Whole.ownGrown {w w' : World} {g : Nat} {t : TypeId} {cs : Array Value} {ob : Option Nat} (h : Whole w g t cs) (hG : w.grownBy w' ob) (ho : ob ≠ some g) : Whole w' g t cs := (hG.block g h.lt (fun e => ho e.symm)).trans h
/-- A value of one cell stored into a block that is known whole. -/
theorem wpList_storeC {ops : Array Oper} {rest : List Oper} {o : Oper} {a : Act} {w : World} {Q : Exit → Act → World → Prop} (hgd : o.guard = none) (ty : TypeId) (x y : Operand) (ho : o.op = .store ty x y)
    {g i : Nat} {t : TypeId} {cs : Array Value} (cs' : Array Value) {u : Value} (hx : a.eval x = .pointer (some ⟨g, i, none⟩)) (hy : a.eval y = u) (hw : Whole w g t cs) (hi : i < cs.size)
    (hs : (Try.prog.info? ty).map (·.size) = some 1) (h1 : u.oneCell' = true) (hcells : u.cells = #[u]) (hcs : cs.setIfInBounds i u = cs')
    (h : ∀ w', Whole w' g t cs' → w.grownBy w' (some g) → wpList Try.prog ops Q rest (a.put o.dst undef) w') : wpList Try.prog ops Q (o :: rest) a w := by
  subst hcs
  refine wpList_plain hgd fun _ hK => ?_
  have hst := run_storeCells_at Try.prog g i t [u] 0 cs w hw (by simp; omega) (fun x hx => by simp at hx; subst hx; exact h1)
  unfold Oper.wp execOp
  cases hq : Try.prog.info? ty with
  | none => simp [hq] at hs
  | some d =>
    have hs' : d.size = 1 := by simpa [hq] using hs
    have hr : (storeVar ty ⟨g, i, none⟩ u).run Try.prog w = .ok () (w.setRow g (cs.toList.take (i + 0) ++ [u] ++ cs.toList.drop (i + 0 + [u].length)).toArray) := by
      simp only [storeVar, sizeOf, typeInfo, hcells]
      simpa [hq, hs'] using hst
    simp only [ho, hx, hy, Instr.storeAt, Instr.sureAddr, Sem.run_bind, Sem.run_pure, Result.andThen_ok, hr]
    refine hK _ _ (h _ ?_ ⟨rfl, rfl, rfl, by simp, fun k _ hk => setRow_other w g k _ (fun e => hk (by simp [e]))⟩)
    have e : (cs.toList.take (i + 0) ++ [u] ++ cs.toList.drop (i + 0 + [u].length)).toArray = cs.setIfInBounds i u := by
      apply Array.ext'
      rw [Array.toList_setIfInBounds, List.set_eq_take_append_cons_drop, if_pos (by simpa using hi)]
      simp
    rw [e]
    exact setRow_heap w g cs _ _ _ hw
/-- 'min' of two numbers, with its value named. -/
theorem wpList_min {ops : Array Oper} {rest : List Oper} {o : Oper} {a : Act} {w : World} {Q : Exit → Act → World → Prop} (hgd : o.guard = none) (x y : Operand) {ts : Array TypeId} (ho : o.op = .call { callee := .builtin .min, args := #[x, y], argTypes := ts })
    {p q r : Int} {k : IntKind} (hx : a.eval x = .int k p) (hy : a.eval y = .int k q) (hr : (if q < p then q else p) = r) (h : wpList Try.prog ops Q rest (a.put o.dst (.int k r)) w) : wpList Try.prog ops Q (o :: rest) a w := by
  subst hr
  refine wpList_plain hgd fun _ hK => ?_
  unfold Oper.wp execOp
  simp only [ho, resolve, invoke, builtin, Sem.run_bind, Sem.run_pure, Result.andThen_ok, List.map_toArray, List.map_cons, List.map_nil, hx, hy, run_min_int2]
  exact hK _ _ h
/-- The world is as it was, but for what was drawn. -/
def Qt (w w' : World) : Prop := ∃ m, w' = w.drewN m
theorem Qt.refl (w : World) : Qt w w := ⟨0, rfl⟩
theorem Qt.drewN {a b : World} (h : Qt a b) (n : Nat) : Qt a (b.drewN n) := by
  obtain ⟨m, rfl⟩ := h
  exact ⟨m + n, World.drewN_drewN a m n⟩
theorem Qt.ext {a b : World} (h : Qt a b) : Ext a b := by
  obtain ⟨m, rfl⟩ := h
  exact (Ext.refl a).drewN m
theorem Qt.trans {a b c : World} (h : Qt a b) (k : Qt b c) : Qt a c := by
  obtain ⟨m, rfl⟩ := k
  exact h.drewN m
/-- 'b[l:h]'. -/
theorem run_mid (W : World) (a : Option Addr) (n c : Nat) (k k' : IntKind) (l h : Int) (h0 : 0 ≤ l) (h1 : l ≤ h) (h2 : h ≤ c) :
    (Instr.slice 33 (.slice a n c) (some (.int k l)) (some (.int k' h)) none).run Try.prog W = .ok (.slice (cutAt a c l.toNat) (h.toNat - l.toNat) (c - l.toNat)) W := by
  rw [run_slice_lh (P := Try.prog) (w := W) 33 a n c (by kernel_rfl) k k' l h h0 h1 h2]
  have hs : (sizeOf (Try.prog.elem 33)).run Try.prog W = .ok 1 W := by kernel_rfl
  rw [hs]
  simp [Result.andThen, sliced, cutAt]
end Go.Proofs.Ytlhncfjeleibmaa
