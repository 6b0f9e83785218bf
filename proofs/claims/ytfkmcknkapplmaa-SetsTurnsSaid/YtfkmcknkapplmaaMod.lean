/- Worlds that differ in one block and one row at most; append and stores, told with where what they make lies. -/
import Derived.Test.YtfkmcknkapplmaaOwn
import Derived.Test.YtfkmcknkapplmaaWhole
namespace Go.Proofs.Ytfkmcknkapplmaa
open Go.RowKit

theorem ret_i64 {a b : Int} (h : a = b) : Ending.returned (.int .i64 a) = .returned (.int .i64 b) := by rw [h]
/-- Everything that was there is there as it was, but block g and block ob. -/
structure Mod (w w' : World) (g : Nat) (ob : Option Nat) : Prop where
  os : w'.os = w.os
  tape : w'.tape = w.tape
  output : w'.output = w.output
  size : w.heap.size ≤ w'.heap.size
  block : ∀ k, k < w.heap.size → k ≠ g → some k ≠ ob → w'.heap[k]? = w.heap[k]?
/-- The own block is the one that it was, or was made since. -/
def NewOb (w : World) (ob ob' : Option Nat) : Prop := ob' = ob ∨ ∃ n, ob' = some n ∧ w.heap.size ≤ n
theorem NewOb.same (w : World) (ob : Option Nat) : NewOb w ob ob := .inl rfl
theorem NewOb.trans {a b : World} {o1 o2 o3 : Option Nat} (h : NewOb a o1 o2) (hs : a.heap.size ≤ b.heap.size) (k : NewOb b o2 o3) : NewOb a o1 o3 := by
  rcases k with rfl | ⟨n, rfl, hn⟩
  · exact h
  · exact .inr ⟨n, rfl, by omega⟩
theorem NewOb.ne {w : World} {ob ob' : Option Nat} (h : NewOb w ob ob') {g : Nat} (hg : g < w.heap.size) (ho : ob ≠ some g) : ob' ≠ some g := by
  rcases h with rfl | ⟨n, rfl, hn⟩
  · exact ho
  · intro e
    injection e with e
    omega
theorem NewOb.le {w : World} {ob ob' : Option Nat} (h : NewOb w ob ob') {b : Nat} (hb : b ≤ w.heap.size) (ho : ∀ k, ob = some k → b ≤ k) : ∀ k, ob' = some k → b ≤ k := by
  rcases h with rfl | ⟨n, rfl, hn⟩
  · exact ho
  · intro k e
    injection e with e
    omega
section
variable {a b c w w' : World} {g : Nat} {ob ob' : Option Nat}
theorem Mod.refl (w : World) (g : Nat) (ob : Option Nat) : Mod w w g ob := ⟨rfl, rfl, rfl, Nat.le_refl _, fun _ _ _ _ => rfl⟩
theorem Mod.trans (h : Mod a b g ob) (k : Mod b c g ob') (ho : NewOb a ob ob') : Mod a c g ob :=
  ⟨k.os.trans h.os, k.tape.trans h.tape, k.output.trans h.output, Nat.le_trans h.size k.size, fun i hi hg hb =>
    (k.block i (Nat.lt_of_lt_of_le hi h.size) hg (fun e => ho.ne hi (fun e' => hb e'.symm) e.symm)).trans (h.block i hi hg hb)⟩
theorem Mod.ofRow (h : w.grownBy w' (some g)) : Mod w w' g ob := ⟨h.os, h.tape, h.output, h.size, fun k hk hg _ => h.block k hk (fun e => hg (by injection e))⟩
theorem Mod.ofOwn (h : w.grownBy w' ob) : Mod w w' g ob := ⟨h.os, h.tape, h.output, h.size, fun k hk _ ho => h.block k hk ho⟩
theorem Mod.ofExt (h : Ext w w') : Mod w w' g ob := ⟨h.os, h.tape, h.output, h.size, fun k hk _ _ => h.block k hk⟩
theorem Mod.drew (w : World) : Mod w w.drew g ob := Mod.ofExt (Ext.refl w).drew
theorem Mod.below (h : Mod a b g ob) {B : Nat} (hB : B ≤ a.heap.size) (hg : B ≤ g) (ho : ∀ k, ob = some k → B ≤ k) : Below B a b :=
  ⟨h.os, h.tape, h.output, h.size, fun k hk => h.block k (by omega) (by omega) (fun e => by have := ho k e.symm; omega)⟩
theorem Mod.whole (h : Mod w w' g ob) {x : Nat} {t : TypeId} {cs : Array Value} (hw : Whole w x t cs) (hg : x ≠ g) (ho : ob ≠ some x) : Whole w' x t cs := (h.block x hw.lt hg (fun e => ho e.symm)).trans hw
theorem Mod.own (h : Mod w w' g ob) {base : Nat} {v : Value} {l : List UInt8} (hv : OwnB w base v l) (hg : v.ownBlock ≠ some g) (ho : v.ownBlock = none ∨ v.ownBlock ≠ ob) : OwnB w' base v l := by
  refine ⟨hv.1, ?_⟩
  rcases hv.2 with hn | ⟨x, cap, cur, rfl, hb, hgg, rest⟩
  · exact .inl hn
  · refine .inr ⟨x, cap, cur, rfl, hb, ?_, rest⟩
    rw [h.block x (Array.getElem?_eq_some_iff.1 hgg).1 (by intro e; subst e; simp [Value.ownBlock] at hg) (by
      intro e
      rcases ho with ho | ho
      · simp [Value.ownBlock] at ho
      · exact ho (by simpa [Value.ownBlock] using e))]
    exact hgg
theorem Mod.cell (h : Mod w w' g ob) {x i : Nat} (hx : x < w.heap.size) (hg : x ≠ g) (ho : ob ≠ some x) : w'.cell? ⟨x, i, none⟩ = w.cell? ⟨x, i, none⟩ :=
  World.cell?_of_block (a := ⟨x, i, none⟩) (h.block x hx hg (fun e => ho e.symm))
end
theorem OwnB.newOb {w : World} {base : Nat} {v : Value} {l : List UInt8} (h : OwnB w base v l) : ∀ k, v.ownBlock = some k → base ≤ k := fun k hk => (h.lt k hk).1
theorem OwnB.ltOb {w : World} {base : Nat} {v : Value} {l : List UInt8} (h : OwnB w base v l) : ∀ k, v.ownBlock = some k → k < w.heap.size := fun k hk => (h.lt k hk).2
theorem OwnB.far {w : World} {base g : Nat} {v : Value} {l : List UInt8} (h : OwnB w base v l) (hg : v.ownBlock ≠ some g) (i : Nat) (u : Value) : OwnB (w.setCell ⟨g, i, none⟩ u) base v l :=
  (Mod.ofRow (ob := none) (show w.grownBy (w.setCell ⟨g, i, none⟩ u) (some g) from ⟨rfl, rfl, rfl, by simp, fun k _ hk => Below.heap_setCell w ⟨g, i, none⟩ u k (fun e => hk (by rw [e]))⟩)).own h hg (by cases v.ownBlock <;> simp)
theorem grown_setCell (w : World) (g i : Nat) (u : Value) : w.grownBy (w.setCell ⟨g, i, none⟩ u) (some g) := ⟨rfl, rfl, rfl, by simp, fun k _ hk => Below.heap_setCell w ⟨g, i, none⟩ u k (fun e => hk (by rw [e]))⟩

theorem zeroCells_byte (n : Nat) : Builtin.zeroCells (Value.int .u8 0).cells n = ((List.replicate n (0 : UInt8)).map byteV).toArray := by
  apply Array.ext
  · rw [size_zeroCells]; simp [Value.cells]
  · intro i h1 h2
    simp [Builtin.zeroCells, Value.cells, byteV, Nat.mod_one]
section
variable {o : Oper} {a : Act} {K : Act → World → Prop} {Q : Exit → Act → World → Prop} {w : World} {base : Nat} {v : Value} {l : List UInt8}
end
theorem Whole.at {w : World} {g : Nat} {t : TypeId} {cs : Array Value} (h : Whole w g t cs) (i : Nat) {u : Value} (hu : cs[i]? = some u) : w.cell? ⟨g, i, none⟩ = some u := (h.cell i).trans hu
theorem Whole.ownGrown {w w' : World} {g : Nat} {t : TypeId} {cs : Array Value} {ob : Option Nat} (h : Whole w g t cs) (hG : w.grownBy w' ob) (ho : ob ≠ some g) : Whole w' g t cs := (hG.block g h.lt (fun e => ho e.symm)).trans h
/-- A value of one cell stored into a block that is known whole. -/
theorem wpList_storeC {ops : Array Oper} {rest : List Oper} {o : Oper} {a : Act} {w : World} {Q : Exit → Act → World → Prop} (hgd : o.guard = none) (ty : TypeId) (x y : Operand) (ho : o.op = .store ty x y)
    {g i : Nat} {t : TypeId} {cs : Array Value} (cs' : Array Value) {u : Value} (hx : a.eval x = .pointer (some ⟨g, i, none⟩)) (hy : a.eval y = u) (hw : Whole w g t cs) (hi : i < cs.size)
    (hs : (Try.prog.info? ty).map (·.size) = some 1) (h1 : u.oneCell' = true) (hcells : u.cells = #[u]) (hcs : cs.setIfInBounds i u = cs')
    (h : ∀ w', Whole w' g t cs' → w.grownBy w' (some g) → wpList Try.prog ops Q rest (a.put o.dst undef) w') : wpList Try.prog ops Q (o :: rest) a w := by
  subst hcs
  refine wpList_plain hgd fun _ hK => ?_
  have hst := run_storeCells_at Try.prog g i t [u] 0 cs w hw (by simp; omega) (fun x hx => by simp at hx; subst hx; exact h1)
  unfold Oper.wp execOp
  cases hq : Try.prog.info? ty with
  | none => simp [hq] at hs
  | some d =>
    have hs' : d.size = 1 := by simpa [hq] using hs
    have hr : (storeVar ty ⟨g, i, none⟩ u).run Try.prog w = .ok () (w.setRow g (cs.toList.take (i + 0) ++ [u] ++ cs.toList.drop (i + 0 + [u].length)).toArray) := by
      simp only [storeVar, sizeOf, typeInfo, hcells]
      simpa [hq, hs'] using hst
    simp only [ho, hx, hy, Instr.storeAt, Instr.sureAddr, Sem.run_bind, Sem.run_pure, Result.andThen_ok, hr]
    refine hK _ _ (h _ ?_ ⟨rfl, rfl, rfl, by simp, fun k _ hk => setRow_other w g k _ (fun e => hk (by simp [e]))⟩)
    have e : (cs.toList.take (i + 0) ++ [u] ++ cs.toList.drop (i + 0 + [u].length)).toArray = cs.setIfInBounds i u := by
      apply Array.ext'
      rw [Array.toList_setIfInBounds, List.set_eq_take_append_cons_drop, if_pos (by simpa using hi)]
      simp
    rw [e]
    exact setRow_heap w g cs _ _ _ hw
/-- 'min' of two numbers, with its value named. -/
theorem wpList_min {ops : Array Oper} {rest : List Oper} {o : Oper} {a : Act} {w : World} {Q : Exit → Act → World → Prop} (hgd : o.guard = none) (x y : Operand) {ts : Array TypeId} (ho : o.op = .call { callee := .builtin .min, args := #[x, y], argTypes := ts })
    {p q r : Int} {k : IntKind} (hx : a.eval x = .int k p) (hy : a.eval y = .int k q) (hr : (if q < p then q else p) = r) (h : wpList Try.prog ops Q rest (a.put o.dst (.int k r)) w) : wpList Try.prog ops Q (o :: rest) a w := by
  subst hr
  refine wpList_plain hgd fun _ hK => ?_
  unfold Oper.wp execOp
  simp only [ho, resolve, invoke, builtin, Sem.run_bind, Sem.run_pure, Result.andThen_ok, List.map_toArray, List.map_cons, List.map_nil, hx, hy, run_min_int2]
  exact hK _ _ h
/-- The world is as it was, but for what was drawn. -/
def Qt (w w' : World) : Prop := ∃ m, w' = w.drewN m
theorem Qt.refl (w : World) : Qt w w := ⟨0, rfl⟩
theorem Qt.drewN {a b : World} (h : Qt a b) (n : Nat) : Qt a (b.drewN n) := by
  obtain ⟨m, rfl⟩ := h
  exact ⟨m + n, World.drewN_drewN a m n⟩
theorem Qt.ext {a b : World} (h : Qt a b) : Ext a b := by
  obtain ⟨m, rfl⟩ := h
  exact (Ext.refl a).drewN m
theorem Qt.trans {a b c : World} (h : Qt a b) (k : Qt b c) : Qt a c := by
  obtain ⟨m, rfl⟩ := k
  exact h.drewN m
end Go.Proofs.Ytfkmcknkapplmaa
