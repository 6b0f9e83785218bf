/- Small facts that all proofs of a seat use: later worlds, slices of bytes, what a cut of a slice is. Slices of bytes that a call has made itself, and what append makes of them. Are two rows of bytes the same? Bytes as strings. The field of 256 elements: plain mathematics. Matrices over the field of 256 elements: plain mathematics. Gauss' steps, and that they always end; ranks; Cauchy's matrices: plain mathematics. Gauss' steps on rows that have the identity's behind them: plain mathematics. Ranks, and Cauchy's matrices: plain mathematics. Rows picked of the identity with Cauchy's matrix below it: plain mathematics. A slice of numbers that came in. Lists of numbers of the call's own. Contracts of one shift, and of what the table of sixteen makes. Contracts of the loops over bytes: what bytes make of a register. Contracts of the document's own loop over bytes. Slices of slices of bytes. Contracts of the sum of parts, and of bytes. The contract of the document's Same, of bytes as strings. Numbers as bytes, seven bits a byte: plain mathematics. append at an operation whose guard says yes. -/
import Derived.Test.YtkfipfhmbhmamaaDoorB01
import Derived.Test.YtkfipfhmbhmamaaDoorRows
import Derived.WalkKit
import Derived.WalkSpells
import Derived.WalkLawsBesides
import Derived.Maps.AppendAt
import Derived.Laws.OwnMore
import Derived.BigFrame
namespace Go.Proofs.YtkfipfhmbhmamaaDoor
open Go.RowKit

theorem hide {p : Prop} (h : p) : Hid p := h
theorem ret_bool {a b : Bool} (h : a = b) : Ending.returned (.bool a) = .returned (.bool b) := by rw [h]
theorem ret_u32 {a b : Int} (h : a = b) : Ending.returned (.int .u32 a) = .returned (.int .u32 b) := by rw [h]

/-- Everything that was there at w is there at W as it was. -/
def Ext (w W : World) : Prop := Below w.heap.size w W
theorem Ext.refl (w : World) : Ext w w := Below.refl _ _
theorem Ext.trans {a b c : World} (h : Ext a b) (k : Ext b c) : Ext a c := Below.trans h (Below.mono k h.size)
theorem Ext.drew {a b : World} (h : Ext a b) : Ext a b.drew := Below.drew h
theorem Ext.drewN {a b : World} (h : Ext a b) (n : Nat) : Ext a (b.drewN n) := ⟨h.os, h.tape, h.output, h.size, h.block⟩
theorem Ext.alloc {a b : World} (h : Ext a b) (o : Obj) : Ext a (b.alloc o) := Below.alloc h h.size o
theorem Ext.grown' {a b c : World} (h : Ext a b) (hg : b.grownBy c none) : Ext a c := Below.grown h hg h.size (fun k hk => by cases hk)
theorem Ext.setCell {a b : World} (h : Ext a b) {g i : Nat} (hg : a.heap.size ≤ g) (u : Value) : Ext a (b.setCell ⟨g, i, none⟩ u) := Below.setCell (p := ⟨g, i, none⟩) h hg u
theorem Ext.storeNew {a b c : World} (h : Ext a b) {o : Obj} (hG : (b.alloc o).grownBy c (some b.heap.size)) : Ext a c := Below.grown (h.alloc o) hG (h.alloc o).size (fun k hk => by cases hk; exact h.size)
theorem Ext.cell {a b : World} (h : Ext a b) {g i : Nat} (hp : g < a.heap.size) : b.cell? ⟨g, i, none⟩ = a.cell? ⟨g, i, none⟩ := Below.cell (p := ⟨g, i, none⟩) h hp
theorem Ext.le {a b : World} (h : Ext a b) : a.heap.size ≤ b.heap.size := h.size
theorem cellNew (w : World) (cs : Array Value) (t : TypeId) (fr : Nat × Nat) (i : Nat) : (w.alloc (.cells cs t fr)).cell? ⟨w.heap.size, i, none⟩ = cs[i]? := World.cell?_alloc_mark w cs t fr i
theorem belowNew (w : World) (o : Obj) : Below w.heap.size w (w.alloc o) := (Below.refl _ _).alloc (Nat.le_refl _) o
theorem extNew (w : World) (o : Obj) : Ext w (w.alloc o) := belowNew w o

/-- A slice that reads as these bytes, its memory below block B. -/
def Bytes (w : World) (B : Nat) (A : Option Addr) (n : Nat) (l : List UInt8) : Prop :=
  l.length = n ∧ (n = 0 ∨ ∃ b off, A = some ⟨b, off, none⟩ ∧ b < B ∧ ∀ i, i < n → w.cell? ⟨b, off + i, none⟩ = some (.int .u8 ((l.getD i 0).toNat : Int)))
theorem Bytes.below {w w' : World} {B C : Nat} {A : Option Addr} {n : Nat} {l : List UInt8} (h : Bytes w B A n l) (hb : Below C w w') (hC : B ≤ C) : Bytes w' B A n l := by
  refine ⟨h.1, ?_⟩
  rcases h.2 with h0 | ⟨b, off, hA, hB, hc⟩
  · exact .inl h0
  · exact .inr ⟨b, off, hA, hB, fun i hi => by rw [hb.cell (p := ⟨b, off + i, none⟩) (Nat.lt_of_lt_of_le hB hC)]; exact hc i hi⟩
theorem Bytes.mono {w : World} {B C : Nat} {A : Option Addr} {n : Nat} {l : List UInt8} (h : Bytes w B A n l) (hC : B ≤ C) : Bytes w C A n l := by
  refine ⟨h.1, ?_⟩
  rcases h.2 with h0 | ⟨b, off, hA, hB, hc⟩
  · exact .inl h0
  · exact .inr ⟨b, off, hA, Nat.lt_of_lt_of_le hB hC, hc⟩
theorem Ext.bytes {a b : World} (h : Ext a b) {A : Option Addr} {n : Nat} {l : List UInt8} (hb : Bytes a a.heap.size A n l) : Bytes b b.heap.size A n l := (hb.below h (Nat.le_refl _)).mono h.size
theorem Bytes.take {w : World} {B : Nat} {A : Option Addr} {n : Nat} {l : List UInt8} (h : Bytes w B A n l) {k : Nat} (hk : k ≤ n) : Bytes w B A k (l.take k) := by
  refine ⟨by rw [List.length_take, h.1]; omega, ?_⟩
  rcases h.2 with h0 | ⟨b, off, hA, hB, hc⟩
  · exact .inl (by omega)
  · refine .inr ⟨b, off, hA, hB, fun i hi => ?_⟩
    rw [hc i (by omega)]
    simp [List.getD_eq_getElem?_getD, hi]
theorem Bytes.none (w : World) (B : Nat) (A : Option Addr) : Bytes w B A 0 [] := ⟨rfl, .inl rfl⟩

/-- Where a slice begins that is cut at k: at the end of its room it stays where it was. -/
def cutAt (A : Option Addr) (c k : Nat) : Option Addr := if c = k then A else A.map (·.add k)
theorem Bytes.drop {w : World} {B : Nat} {A : Option Addr} {n : Nat} {l : List UInt8} (h : Bytes w B A n l) {k c : Nat} (hk : k ≤ n) (hc : n ≤ c) : Bytes w B (cutAt A c k) (n - k) (l.drop k) := by
  refine ⟨by rw [List.length_drop, h.1], ?_⟩
  by_cases hkn : k = n
  · exact .inl (by omega)
  rcases h.2 with h0 | ⟨b, off, rfl, hB, hcell⟩
  · exact .inl (by omega)
  · refine .inr ⟨b, off + k, ?_, hB, fun i hi => ?_⟩
    · simp [cutAt, show ¬ c = k by omega, Addr.add]
    · rw [Nat.add_assoc, hcell (k + i) (by omega)]
      simp [List.getD_eq_getElem?_getD]
/-- New bytes. -/
def byteCells (l : List UInt8) : Array Value := (l.map fun c => Value.int .u8 (c.toNat : Int)).toArray
theorem bytesNew (w : World) (l : List UInt8) (cs : Array Value) (t : TypeId) (fr : Nat × Nat) (h : cs = byteCells l) (n : Nat) (hn : l.length = n) :
    Bytes (w.alloc (.cells cs t fr)) (w.alloc (.cells cs t fr)).heap.size (some ⟨w.heap.size, 0, none⟩) n l := by
  subst h
  subst hn
  refine ⟨rfl, .inr ⟨w.heap.size, 0, rfl, by simp, fun i hi => ?_⟩⟩
  rw [Nat.zero_add, World.cell?_alloc_mark]
  simp [hi, byteCells]

theorem run_cut (W : World) (a : Option Addr) (n c : Nat) (k : IntKind) (l : Int) (h0 : 0 ≤ l) (h1 : l ≤ n) :
    (Instr.slice 27 (.slice a n c) (some (.int k l)) none none).run Tryd.prog W = .ok (.slice (cutAt a c l.toNat) (n - l.toNat) (c - l.toNat)) W := by
  rw [run_slice_l (P := Tryd.prog) (w := W) 27 a n c (by kernel_rfl) k l h0 h1]
  have hs : (sizeOf (Tryd.prog.elem 27)).run Tryd.prog W = .ok 1 W := by kernel_rfl
  rw [hs]
  simp [Result.andThen, sliced, cutAt]
end Go.Proofs.YtkfipfhmbhmamaaDoor

namespace Go.Proofs.YtkfipfhmbhmamaaDoor
open Go.RowKit

def byteV (c : UInt8) : Value := .int .u8 (c.toNat : Int)
/-- v is nil, or lies in a block of the call's own (from base on), and reads as these bytes. -/
def OwnB (w : World) (base : Nat) (v : Value) (l : List UInt8) : Prop := w.ownsRow base 5 1 v l.length (l.map byteV)
theorem byte_info : (Tryd.prog.info? 5).map (fun i => (i.zero, i.size, i.bytes)) = some (some (.int .u8 0), 1, 1) := by kernel_rfl

theorem OwnB.nil (w : World) (base : Nat) : OwnB w base (.slice none 0 0) [] := World.ownsRow_nil w base _ _
theorem Ext.grown {w w' : World} (h : Ext w w') (row : Option Nat) : w.grownBy w' row := ⟨h.os, h.tape, h.output, h.size, fun i hi _ => h.block i hi⟩
theorem OwnB.empty (w : World) {base : Nat} (h : base ≤ w.heap.size) : OwnB (w.alloc (.cells #[] 5)) base (.slice (some ⟨w.heap.size, 0, none⟩) 0 0) [] :=
  World.ownsRow_made (size := 1) w #[] 0 h (by unfold maxLen; omega) (by simp)
theorem OwnB.lit (w : World) (cs : Array Value) (l : List UInt8) (n : Nat) (hcs : cs = (l.map byteV).toArray) (hn : l.length = n) (hm : n ≤ 1000) {base : Nat} (h : base ≤ w.heap.size) :
    OwnB (w.alloc (.cells cs 5)) base (.slice (some ⟨w.heap.size, 0, none⟩) n n) l := by
  subst hcs
  subst hn
  have := World.ownsRow_lit (e := 5) (size := 1) w (l.map byteV).toArray l.length h (by unfold maxLen; omega) (by simp)
  simpa [OwnB] using this
theorem OwnB.ext {w w' : World} {base : Nat} {v : Value} {l : List UInt8} (h : OwnB w base v l) (hE : Ext w w') : OwnB w' base v l :=
  World.ownsRow.kept h (hE.grown none) (by cases hv : v.ownBlock <;> simp)
theorem OwnB.form {w : World} {base : Nat} {v : Value} {l : List UInt8} (h : OwnB w base v l) :
    ∃ A c, v = .slice A l.length c ∧ l.length ≤ c ∧ c ≤ maxLen ∧ Bytes w w.heap.size A l.length l := by
  have hl := h.lt
  rcases h.2 with ⟨rfl, h0⟩ | ⟨g, cap, cur, rfl, hb, hg, hn, hc, hs, ht⟩
  · exact ⟨none, 0, by rw [h0], by omega, by unfold maxLen; omega, rfl, .inl h0⟩
  · refine ⟨_, cap, rfl, hn, hc, rfl, .inr ⟨g, 0, rfl, (hl g rfl).2, fun i hi => ?_⟩⟩
    have hk := World.ownsRow.cellAt h i (by omega)
    rw [Nat.zero_add, hk]
    simp [byteV, hi]
theorem OwnB.form' {w : World} {base : Nat} {v : Value} {l : List UInt8} (h : OwnB w base v l) : ∃ A n c, v = .slice A n c ∧ n ≤ c ∧ n ≤ l.length ∧ Bytes w w.heap.size A n l := by
  obtain ⟨A, c, hv, hc, _, hb⟩ := h.form
  exact ⟨A, _, c, hv, hc, Nat.le_refl _, hb⟩
theorem OwnB.mono {w : World} {base base' : Nat} {v : Value} {l : List UInt8} (h : OwnB w base v l) (hb : base' ≤ base) : OwnB w base' v l :=
  ⟨h.1, h.2.elim Or.inl fun ⟨g, cap, cur, hv, hg, r⟩ => Or.inr ⟨g, cap, cur, hv, Nat.le_trans hb hg, r⟩⟩
/-- How long it may be. -/
theorem OwnB.len_le {w : World} {base : Nat} {v : Value} {l : List UInt8} (h : OwnB w base v l) : l.length ≤ maxLen := by
  obtain ⟨_, c, _, h1, h2, _⟩ := h.form
  omega

theorem run_append_zero (w : World) (ty : TypeId) (base : Nat) (v : Value) (l : List UInt8) (hown : OwnB w base v l) (A : Option Addr) (c : Nat) :
    (Builtin.append_ #[27, 27] ty #[v, .slice A 0 c]).run Tryd.prog w = .ok v w := by
  obtain ⟨i, hi, _, _, _⟩ := info_parts byte_info
  rcases hown.2 with ⟨rfl, _⟩ | ⟨g, cap, cur, rfl, _, _, hnc, _⟩
  · cases A <;> simp [Builtin.append_, run_underlying Tryd.underlying27, sizeOf, typeInfo, hi, Builtin.lenOf, Builtin.firstCells, loadCells, loadCellsFrom]
  · cases A <;> simp [Builtin.append_, run_underlying Tryd.underlying27, sizeOf, typeInfo, hi, Builtin.lenOf, Builtin.firstCells, loadCells, loadCellsFrom, hnc, storeCells]

/-- Where bytes of the call's own lie, if there are any. -/
theorem OwnB.formG {w : World} {base : Nat} {v : Value} {l : List UInt8} (h : OwnB w base v l) (hl : 0 < l.length) : ∃ g c, v = .slice (some ⟨g, 0, none⟩) l.length c ∧ base ≤ g ∧ l.length ≤ c := by
  rcases h.2 with ⟨_, h0⟩ | ⟨g, cap, _, rfl, hb, _, hn, _⟩
  · omega
  · exact ⟨g, cap, rfl, hb, hn⟩
theorem OwnB.cell {w : World} {base g n c : Nat} {l : List UInt8} (h : OwnB w base (.slice (some ⟨g, 0, none⟩) n c) l) {i : Nat} (hi : i < l.length) :
    w.cell? ⟨g, i, none⟩ = some (.int .u8 ((l.getD i 0).toNat : Int)) ∧ w.frozen? ⟨g, i, none⟩ = false := by
  have hn : n = l.length := by
    rcases h.2 with ⟨h', _⟩ | ⟨_, _, _, h', _⟩
    · simp at h'
    · simp only [Value.slice.injEq] at h'; exact h'.2.1
  subst hn
  refine ⟨?_, World.ownsRow.frozenAt h i⟩
  rw [World.ownsRow.cellAt h i (by omega)]
  simp [byteV, hi]
theorem OwnB.set {w : World} {base g n c : Nat} {l : List UInt8} (h : OwnB w base (.slice (some ⟨g, 0, none⟩) n c) l) (i : Nat) (x : UInt8) :
    OwnB (w.setCell ⟨g, i, none⟩ (.int .u8 (x.toNat : Int))) base (.slice (some ⟨g, 0, none⟩) n c) (l.set i x) := by
  have hn : n = l.length := by
    rcases h.2 with ⟨h', _⟩ | ⟨_, _, _, h', _⟩
    · simp at h'
    · simp only [Value.slice.injEq] at h'; exact h'.2.1
  subst hn
  have := (World.ownsRow.stored h i (byteV x)).1
  unfold OwnB
  rw [List.length_set, List.map_set]
  exact this
/-- append of bytes, wherever they lie. -/
theorem app_run {w : World} (ty : TypeId) {base : Nat} {v : Value} {l : List UInt8} (hown : OwnB w base v l) {A : Option Addr} {m : Nat} {k : List UInt8} (c : Nat) (hb : Bytes w w.heap.size A m k)
    (hlen : l.length + m ≤ 140737488355328) (hbase : base ≤ w.heap.size) :
    ∃ v' w', (Builtin.append_ #[27, 27] ty #[v, .slice A m c]).run Tryd.prog w = .ok v' w' ∧ OwnB w' base v' (l ++ k) ∧ w.grownBy w' v.ownBlock := by
  obtain ⟨hk, hb⟩ := hb
  rcases hb with rfl | ⟨b, off, rfl, hB, hc⟩
  · obtain rfl := List.eq_nil_of_length_eq_zero hk
    exact ⟨v, w, run_append_zero w ty base v l hown A c, by simpa using hown, World.grownBy.refl w _⟩
  · obtain ⟨i, hi, hz, hs, hby⟩ := info_parts byte_info
    obtain ⟨v', w', hr, h2, h3, _⟩ := run_append_own (P := Tryd.prog) w base 27 ty 5 i _ 1 1 Tryd.underlying27 hi hz hs hby rfl (by omega) v l.length (l.map byteV) hown
      ⟨b, off, none⟩ m c (k.map byteV) (by simpa using hk) (by
        intro j u hu
        have hj : j < m := by
          rcases Nat.lt_or_ge j m with h | h
          · exact h
          · rw [List.getElem?_eq_none (by simp; omega)] at hu; cases hu
        have hadd : (⟨b, off, none⟩ : Addr).add j = ⟨b, off + j, none⟩ := by unfold Addr.add; split <;> simp_all
        rw [hadd, hc j hj]
        rw [List.getElem?_map, List.getElem?_eq_getElem (by omega)] at hu
        rw [List.getD_eq_getElem?_getD, List.getElem?_eq_getElem (by omega)]
        simpa [byteV] using hu) (by
        intro u hu
        obtain ⟨x, _, rfl⟩ := List.mem_map.1 hu
        rfl) (by unfold maxLen; omega) (by omega) hbase
    refine ⟨v', w', hr, ?_, h3⟩
    unfold OwnB
    rw [List.length_append, hk, List.map_append]
    exact h2
/-- append of one byte: it is laid in a block of its own first. -/
theorem app_one {w : World} (ty : TypeId) {base : Nat} {v : Value} {l : List UInt8} (hown : OwnB w base v l) (x : UInt8) (hlen : l.length + 1 ≤ 140737488355328) (hbase : base ≤ w.heap.size) :
    ∃ v' w', (Builtin.append_ #[27, 27] ty #[v, .slice (some ⟨w.heap.size, 0, none⟩) 1 1]).run Tryd.prog (w.alloc (.cells #[.int .u8 (x.toNat : Int)] 5)) = .ok v' w' ∧ OwnB w' base v' (l ++ [x]) ∧
      (w.alloc (.cells #[.int .u8 (x.toNat : Int)] 5)).grownBy w' v.ownBlock :=
  app_run ty (hown.ext (extNew w _)) 1 (bytesNew w [x] _ _ _ rfl 1 rfl) hlen (by simp; omega)
/-- The same at the operation. -/
theorem wp_app {o : Oper} {a : Act} {K : Act → World → Prop} {Q : Exit → Act → World → Prop} {w : World} (s x : Operand)
    (ho : o.op = .call { callee := .builtin .append, args := #[s, x], argTypes := #[27, 27] }) {base : Nat} {v : Value} {l : List UInt8} (hs : a.eval s = v) (hown : OwnB w base v l)
    {A : Option Addr} {m c : Nat} {k : List UInt8} (hx : a.eval x = .slice A m c) (hb : Bytes w w.heap.size A m k) (hlen : l.length + m ≤ 140737488355328) (hbase : base ≤ w.heap.size)
    (h : ∀ v' w', OwnB w' base v' (l ++ k) → w.grownBy w' v.ownBlock → K (a.put o.dst v') w') : o.wp Tryd.prog a w K Q := by
  obtain ⟨v', w', hr, h2, h3⟩ := app_run o.type hown c hb hlen hbase
  unfold Oper.wp execOp
  simp only [ho, resolve, invoke, builtin, Sem.run_bind, Sem.run_pure, Result.andThen_ok, List.map_toArray, List.map_cons, List.map_nil, hs, hx, hr]
  exact h v' w' h2 h3
/-- The same for a walk of a plain region. -/
theorem wpList_app {ops : Array Oper} {rest : List Oper} {o : Oper} {a : Act} {Q : Exit → Act → World → Prop} {w : World} (hgd : o.guard = none) (s x : Operand)
    (ho : o.op = .call { callee := .builtin .append, args := #[s, x], argTypes := #[27, 27] }) {base : Nat} {v : Value} {l : List UInt8} (hs : a.eval s = v) (hown : OwnB w base v l)
    {A : Option Addr} {m c : Nat} {k : List UInt8} (hx : a.eval x = .slice A m c) (hb : Bytes w w.heap.size A m k) (hlen : l.length + m ≤ 140737488355328) (hbase : base ≤ w.heap.size)
    (h : ∀ v' w', OwnB w' base v' (l ++ k) → w.grownBy w' v.ownBlock → wpList Tryd.prog ops Q rest (a.put o.dst v') w') : wpList Tryd.prog ops Q (o :: rest) a w :=
  wpList_plain hgd fun _ hK => wp_app s x ho hs hown hx hb hlen hbase fun v' w' h2 h3 => hK _ _ (h v' w' h2 h3)
/-- The same for a region that draws its order. -/
theorem step_app {ops : Array Oper} {o : Oper} {a : Act} {K : Act → World → Prop} {Q : Exit → Act → World → Prop} {E : Prop} {w : World} (hgd : o.guard = none) (s x : Operand)
    (ho : o.op = .call { callee := .builtin .append, args := #[s, x], argTypes := #[27, 27] }) {base : Nat} {v : Value} {l : List UInt8} (hs : a.eval s = v) (hown : OwnB w base v l)
    {A : Option Addr} {m c : Nat} {k : List UInt8} (hx : a.eval x = .slice A m c) (hb : Bytes w w.heap.size A m k) (hlen : l.length + m ≤ 140737488355328) (hbase : base ≤ w.heap.size)
    (h : ∀ v' w', OwnB w' base v' (l ++ k) → w.grownBy w' v.ownBlock → K (a.put o.dst v') w') :
    if Region.wanted o (yielded ops a.tmps) = true then Oper.wp Tryd.prog o a w K Q else E := by
  have hw : Region.wanted o (yielded ops a.tmps) = true := by simp [Region.wanted, hgd]
  rw [if_pos hw]
  exact wp_app s x ho hs hown hx hb hlen hbase h
/-- Behind a call that makes bytes: they lie in new memory. -/
def MadeB (w : World) (l : List UInt8) (e : Ending) (w' : World) : Prop := ∃ v, e = .returned v ∧ OwnB w' w.heap.size v l ∧ Ext w w'
/-- What an append leaves of the memory below base. -/
theorem OwnB.below {w0 w w' : World} {base : Nat} {v : Value} {l : List UInt8} (h : OwnB w base v l) (hb : Below base w0 w) (hg : w.grownBy w' v.ownBlock) (hbase : base ≤ w.heap.size) : Below base w0 w' :=
  hb.grown hg hbase fun k hk => (h.lt k hk).1
end Go.Proofs.YtkfipfhmbhmamaaDoor

namespace Go.Proofs.YtkfipfhmbhmamaaDoor
open Go.RowKit

def sameB (a b : List UInt8) : Bool := decide (a = b)
theorem sameB_true {a b : List UInt8} (h : a = b) : sameB a b = true := decide_eq_true h
theorem sameB_false {a b : List UInt8} (h : a ≠ b) : sameB a b = false := decide_eq_false h
end Go.Proofs.YtkfipfhmbhmamaaDoor

namespace Go.Proofs.YtkfipfhmbhmamaaDoor
open Go.RowKit

theorem conv_bytes {w : World} {B : Nat} {A : Option Addr} {n : Nat} {l : List UInt8} (c : Nat) (h : Bytes w B A n l) (hA : A = none → n = 0) :
    (convert 27 9 (.slice A n c)).run Tryd.prog w = .ok (.string ⟨l.toArray⟩) w := by
  obtain ⟨hl, hb⟩ := h
  rcases A with _ | ad
  · obtain rfl := hA rfl
    obtain rfl := List.eq_nil_of_length_eq_zero hl
    exact run_convert_bytes_nil w 27 5 Tryd.underlying27 Tryd.underlying5 0 c 9 Tryd.underlying9
  · subst hl
    refine run_convert_bytes_back w 27 9 5 ad c l Tryd.underlying27 Tryd.underlying5 Tryd.underlying9 fun j hj => ?_
    rcases hb with h0 | ⟨b, off, hA, _, hc⟩
    · omega
    · obtain rfl : ad = ⟨b, off, none⟩ := by injection hA
      have hadd : (⟨b, off, none⟩ : Addr).add j = ⟨b, off + j, none⟩ := by unfold Addr.add; split <;> simp_all
      rw [hadd, hc j hj, List.getD_eq_getElem?_getD, List.getElem?_eq_getElem hj]
      rfl

theorem same_beq (a b : List UInt8) : sameB a b = (a == b) := by
  by_cases h : a = b
  · rw [sameB_true h]; simp [h]
  · rw [sameB_false h]; simp [h]
end Go.Proofs.YtkfipfhmbhmamaaDoor

namespace Go.Proofs.YtkfipfhmbhmamaaDoor
open Go.RowKit

namespace Gf
/-- The product of polynomials, of which the first k bits of b are taken. -/
def cl (a b : Nat) : Nat → Nat
  | 0 => 0
  | k + 1 => cl a b k ^^^ (if b.testBit k then a <<< k else 0)
/-- One step of the rest: the bit 8 + k is cleared. -/
def red1 (k p : Nat) : Nat := if p.testBit (8 + k) then p ^^^ 285 <<< k else p
/-- The rest, from the bit 8 + (k - 1) downwards. -/
def red : Nat → Nat → Nat
  | 0, p => p
  | k + 1, p => red k (red1 k p)
def mul (a b : Nat) : Nat := red 7 (cl a b 8)
def pow (a : Nat) : Nat → Nat
  | 0 => 1
  | n + 1 => mul (pow a n) a

def Lin (f : Nat → Nat) : Prop := ∀ a b, f (a ^^^ b) = f a ^^^ f b
theorem Lin.zero {f : Nat → Nat} (h : Lin f) : f 0 = 0 := by
  have := h 0 0
  rw [Nat.xor_self, Nat.xor_self] at this
  exact this
theorem Lin.comp {f g : Nat → Nat} (hf : Lin f) (hg : Lin g) : Lin fun a => f (g a) := fun a b => by
  show f (g (a ^^^ b)) = _
  rw [hg, hf]
theorem Lin.xor {f g : Nat → Nat} (hf : Lin f) (hg : Lin g) : Lin fun a => f a ^^^ g a := fun a b => by
  show f (a ^^^ b) ^^^ g (a ^^^ b) = _
  rw [hf, hg]
  apply Nat.eq_of_testBit_eq
  intro i
  simp only [Nat.testBit_xor]
  cases (f a).testBit i <;> cases (f b).testBit i <;> cases (g a).testBit i <;> cases (g b).testBit i <;> rfl
theorem lin_zero : Lin fun _ => 0 := fun _ _ => (Nat.xor_self 0).symm
theorem lin_shift (k : Nat) : Lin fun a => a <<< k := fun a b => by
  apply Nat.eq_of_testBit_eq
  intro i
  simp only [Nat.testBit_xor, Nat.testBit_shiftLeft]
  cases decide (i ≥ k) <;> simp
theorem lin_pick (c k : Nat) : Lin fun b => if b.testBit k then c else 0 := fun a b => by
  simp only [Nat.testBit_xor]
  cases a.testBit k <;> cases b.testBit k <;> simp
theorem lin_red1 (k : Nat) : Lin (red1 k) := by
  have h : red1 k = fun p => p ^^^ (if p.testBit (8 + k) then 285 <<< k else 0) := by
    funext p
    unfold red1
    split <;> simp
  rw [h]
  exact Lin.xor (fun _ _ => rfl) (lin_pick _ _)
theorem lin_red : ∀ k, Lin (red k)
  | 0 => fun _ _ => rfl
  | k + 1 => (lin_red k).comp (lin_red1 k)
theorem lin_cl_right (a : Nat) : ∀ k, Lin fun b => cl a b k
  | 0 => lin_zero
  | k + 1 => (lin_cl_right a k).xor (lin_pick _ _)
theorem lin_cl_left (b : Nat) : ∀ k, Lin fun a => cl a b k
  | 0 => lin_zero
  | k + 1 => (lin_cl_left b k).xor (by
    cases b.testBit k
    · exact lin_zero
    · exact lin_shift k)
theorem lin_mul_right (a : Nat) : Lin (mul a) := (lin_red 7).comp (lin_cl_right a 8)
theorem lin_mul_left (b : Nat) : Lin fun a => mul a b := (lin_red 7).comp (lin_cl_left b 8)

theorem lt_of_clear {a n : Nat} (h : a < 2 ^ (n + 1)) (hb : a.testBit n = false) : a < 2 ^ n := by
  apply Nat.lt_pow_two_of_testBit
  intro i hi
  rcases Nat.lt_or_ge n i with h1 | h1
  · exact Nat.testBit_lt_two_pow (Nat.lt_of_lt_of_le h (Nat.pow_le_pow_right (by omega) h1))
  · obtain rfl : i = n := by omega
    exact hb
/-- Two sums' maps that are the same at each bit are the same. -/
theorem ext {f g : Nat → Nat} (hf : Lin f) (hg : Lin g) : ∀ n, (∀ i, i < n → f (2 ^ i) = g (2 ^ i)) → ∀ a, a < 2 ^ n → f a = g a
  | 0, _, a, ha => by
    obtain rfl : a = 0 := by simpa using ha
    rw [hf.zero, hg.zero]
  | n + 1, h, a, ha => by
    cases hb : a.testBit n with
    | false => exact ext hf hg n (fun i hi => h i (by omega)) a (lt_of_clear ha hb)
    | true =>
      have h1 : a ^^^ 2 ^ n < 2 ^ n := by
        refine lt_of_clear (Nat.xor_lt_two_pow ha (Nat.pow_lt_pow_right (by omega) (by omega))) ?_
        rw [Nat.testBit_xor, hb, Nat.testBit_two_pow_self]; rfl
      have h2 : a = (a ^^^ 2 ^ n) ^^^ 2 ^ n := by rw [Nat.xor_assoc, Nat.xor_self, Nat.xor_zero]
      rw [h2, hf, hg, ext hf hg n (fun i hi => h i (by omega)) _ h1, h n (by omega)]
theorem basis_lt : ∀ i : Fin 8, ∀ j : Fin 8, mul (2 ^ i.val) (2 ^ j.val) < 256 := by decide +kernel
theorem basis_comm : ∀ i : Fin 8, ∀ j : Fin 8, mul (2 ^ i.val) (2 ^ j.val) = mul (2 ^ j.val) (2 ^ i.val) := by decide +kernel
theorem basis_assoc : ∀ i : Fin 8, ∀ j : Fin 8, ∀ k : Fin 8, mul (mul (2 ^ i.val) (2 ^ j.val)) (2 ^ k.val) = mul (2 ^ i.val) (mul (2 ^ j.val) (2 ^ k.val)) := by decide +kernel
theorem basis_one : ∀ i : Fin 8, mul (2 ^ i.val) 1 = 2 ^ i.val := by decide +kernel
theorem mul_comm {a b : Nat} (ha : a < 256) (hb : b < 256) : mul a b = mul b a := by
  refine ext (lin_mul_left b) (lin_mul_right b) 8 (fun i hi => ?_) a ha
  exact ext (lin_mul_right (2 ^ i)) (lin_mul_left (2 ^ i)) 8 (fun j hj => basis_comm ⟨i, hi⟩ ⟨j, hj⟩) b hb
theorem mul_assoc {a b c : Nat} (ha : a < 256) (hb : b < 256) (hc : c < 256) : mul (mul a b) c = mul a (mul b c) := by
  refine ext (f := fun a => mul (mul a b) c) (g := fun a => mul a (mul b c)) ((lin_mul_left c).comp (lin_mul_left b)) (lin_mul_left _) 8 (fun i hi => ?_) a ha
  refine ext (f := fun b => mul (mul (2 ^ i) b) c) (g := fun b => mul (2 ^ i) (mul b c)) ((lin_mul_left c).comp (lin_mul_right _)) ((lin_mul_right _).comp (lin_mul_left c)) 8 (fun j hj => ?_) b hb
  exact ext (f := fun c => mul (mul (2 ^ i) (2 ^ j)) c) (g := fun c => mul (2 ^ i) (mul (2 ^ j) c)) (lin_mul_right _) ((lin_mul_right _).comp (lin_mul_right _)) 8 (fun k hk => basis_assoc ⟨i, hi⟩ ⟨j, hj⟩ ⟨k, hk⟩) c hc
theorem mul_one {a : Nat} (ha : a < 256) : mul a 1 = a := ext (f := fun a => mul a 1) (g := fun a => a) (lin_mul_left 1) (fun _ _ => rfl) 8 (fun i hi => basis_one ⟨i, hi⟩) a ha
theorem mul_zero (a : Nat) : mul a 0 = 0 := (lin_mul_right a).zero
theorem zero_mul (b : Nat) : mul 0 b = 0 := (lin_mul_left b).zero
theorem one_mul {a : Nat} (ha : a < 256) : mul 1 a = a := by rw [mul_comm (by omega) ha, mul_one ha]
theorem mul_lt {a b : Nat} (ha : a < 256) (hb : b < 256) : mul a b < 256 := by
  have key : mul a b = mul a b % 256 := by
    have lin_mod : Lin fun x => x % 256 := fun x y => by
      show (x ^^^ y) % 2 ^ 8 = (x % 2 ^ 8) ^^^ (y % 2 ^ 8)
      exact Nat.xor_mod_two_pow
    refine ext (f := fun a => mul a b) (g := fun a => mul a b % 256) (lin_mul_left b) (lin_mod.comp (lin_mul_left b)) 8 (fun i hi => ?_) a ha
    refine ext (f := fun b => mul (2 ^ i) b) (g := fun b => mul (2 ^ i) b % 256) (lin_mul_right _) (lin_mod.comp (lin_mul_right _)) 8 (fun j hj => ?_) b hb
    exact (Nat.mod_eq_of_lt (basis_lt ⟨i, hi⟩ ⟨j, hj⟩)).symm
  rw [key]
  exact Nat.mod_lt _ (by decide)
theorem mul_xor (a b c : Nat) : mul a (b ^^^ c) = mul a b ^^^ mul a c := lin_mul_right a b c
theorem xor_mul (a b c : Nat) : mul (a ^^^ b) c = mul a c ^^^ mul b c := lin_mul_left c a b

theorem pow_succ (a n : Nat) : pow a (n + 1) = mul (pow a n) a := rfl
theorem pow_lt {a : Nat} (ha : a < 256) : ∀ n, pow a n < 256
  | 0 => by simp [pow]
  | n + 1 => mul_lt (pow_lt ha n) ha
theorem pow_add {a : Nat} (ha : a < 256) (m : Nat) : ∀ n, pow a (m + n) = mul (pow a m) (pow a n)
  | 0 => by rw [Nat.add_zero, pow, mul_one (pow_lt ha m)]
  | n + 1 => by rw [← Nat.add_assoc, pow, pow_add ha m n, pow, mul_assoc (pow_lt ha m) (pow_lt ha n) ha]
theorem one_pow : ∀ n, pow 1 n = 1
  | 0 => rfl
  | n + 1 => by rw [pow, one_pow n]; exact mul_one (by omega)
theorem pow_mul {a : Nat} (ha : a < 256) (m : Nat) : ∀ n, pow a (m * n) = pow (pow a m) n
  | 0 => rfl
  | n + 1 => by rw [Nat.mul_succ, pow_add ha, pow_mul ha m n, pow]
/-- a to the 254th, in few products: the inverse. -/
def sq (a : Nat) : Nat := mul a a
def inv (a : Nat) : Nat :=
  let a2 := sq a
  let a4 := sq a2
  let a8 := sq a4
  let a16 := sq a8
  let a32 := sq a16
  let a64 := sq a32
  let a128 := sq a64
  mul (mul (mul (mul (mul (mul a2 a4) a8) a16) a32) a64) a128
theorem inv_all : ∀ a : Fin 256, a.val ≠ 0 → mul a.val (inv a.val) = 1 ∧ inv a.val < 256 := by decide +kernel
theorem mul_inv {a : Nat} (ha : a < 256) (h : a ≠ 0) : mul a (inv a) = 1 := (inv_all ⟨a, ha⟩ h).1
theorem inv_lt {a : Nat} (ha : a < 256) (h : a ≠ 0) : inv a < 256 := (inv_all ⟨a, ha⟩ h).2
theorem mul_cancel {a b c : Nat} (ha : a < 256) (hb : b < 256) (hc : c < 256) (h0 : a ≠ 0) (h : mul a b = mul a c) : b = c := by
  have h1 : mul (inv a) (mul a b) = mul (inv a) (mul a c) := by rw [h]
  have hi := inv_lt ha h0
  rw [← mul_assoc hi ha hb, ← mul_assoc hi ha hc, mul_comm hi ha, mul_inv ha h0, one_mul hb, one_mul hc] at h1
  exact h1
theorem mul_eq_zero {a b : Nat} (ha : a < 256) (hb : b < 256) : mul a b = 0 ↔ a = 0 ∨ b = 0 := by
  refine ⟨fun h => ?_, fun h => ?_⟩
  · by_cases h0 : a = 0
    · exact .inl h0
    · exact .inr (mul_cancel ha hb (by omega) h0 (by rw [h, mul_zero]))
  · rcases h with rfl | rfl
    · exact zero_mul b
    · exact mul_zero a
theorem pow_ne_zero {a : Nat} (ha : a < 256) (h : a ≠ 0) : ∀ n, pow a n ≠ 0
  | 0 => by simp [pow]
  | n + 1 => fun e => by
    rw [pow, mul_eq_zero (pow_lt ha n) ha] at e
    rcases e with e | e
    · exact pow_ne_zero ha h n e
    · exact h e

/-! ### The powers of 2 -/
/-- Times 2. -/
def dbl (a : Nat) : Nat := if a < 128 then 2 * a else 2 * a ^^^ 285
def powers : Nat → Nat → List Nat
  | 0, _ => []
  | n + 1, a => a :: powers n (dbl a)
theorem dbl_eq : ∀ a : Fin 256, mul a.val 2 = dbl a.val := by decide +kernel
theorem powers_get : ∀ n k a, k < n → (powers n (pow 2 a))[k]? = some (pow 2 (a + k))
  | n + 1, 0, a, _ => rfl
  | n + 1, k + 1, a, h => by
    rw [powers, List.getElem?_cons_succ, show dbl (pow 2 a) = pow 2 (a + 1) from (dbl_eq ⟨pow 2 a, pow_lt (by omega) a⟩).symm, powers_get n k (a + 1) (by omega)]
    congr 2
    omega
theorem powers_len : ∀ n a, (powers n a).length = n
  | 0, _ => rfl
  | n + 1, a => by rw [powers, List.length_cons, powers_len n]
theorem powers_all : ∀ a : Fin 256, a.val ≠ 0 → (powers 255 1).elem a.val = true := by decide +kernel
theorem powers_apart : (powers 255 1).Nodup := by decide +kernel
theorem powers_at {k : Nat} (h : k < 255) : (powers 255 1)[k]? = some (pow 2 k) := by
  have := powers_get 255 k 0 h
  rwa [Nat.zero_add] at this
/-- Each element but 0 is a power of 2. -/
theorem log_exists {a : Nat} (ha : a < 256) (h : a ≠ 0) : ∃ n, n < 255 ∧ pow 2 n = a := by
  have hm : a ∈ powers 255 1 := List.elem_iff.1 (powers_all ⟨a, ha⟩ h)
  obtain ⟨n, hn, he⟩ := List.getElem_of_mem hm
  rw [powers_len] at hn
  refine ⟨n, hn, ?_⟩
  have h1 := powers_at hn
  rw [List.getElem?_eq_getElem (by rw [powers_len]; exact hn), he] at h1
  injection h1 with h1
  exact h1.symm
theorem pow2_inj {n m : Nat} (hn : n < 255) (hm : m < 255) (h : pow 2 n = pow 2 m) : n = m := by
  have h1 := powers_at hn
  have h2 := powers_at hm
  rw [h, ← h2] at h1
  exact (List.getElem?_inj (by rw [powers_len]; exact hn) powers_apart).1 h1
theorem pow2_254 : dbl ((powers 255 1).getD 254 0) = 1 := by decide +kernel
theorem pow2_255 : pow 2 255 = 1 := by
  have h1 := powers_at (k := 254) (by omega)
  have h2 := pow2_254
  generalize powers 255 1 = L at h1 h2
  rw [List.getD_eq_getElem?_getD, h1, Option.getD_some] at h2
  have h3 := pow_lt (a := 2) (by omega) 254
  have h4 : pow 2 255 = mul (pow 2 254) 2 := pow_succ 2 254
  rw [h4]
  generalize pow 2 254 = P at *
  exact (dbl_eq ⟨P, h3⟩).trans h2
theorem pow_255 {a : Nat} (ha : a < 256) (h : a ≠ 0) : pow a 255 = 1 := by
  obtain ⟨n, _, rfl⟩ := log_exists ha h
  rw [← pow_mul (by omega), Nat.mul_comm, pow_mul (by omega), pow2_255, one_pow]
theorem pow_most {a : Nat} (ha : a < 256) (h : a ≠ 0) : pow a 18446744073709551615 = 1 := by
  rw [show (18446744073709551615 : Nat) = 255 * 72340172838076673 from rfl, pow_mul ha, pow_255 ha h, one_pow]
theorem pow_mod {a : Nat} (ha : a < 256) (h : a ≠ 0) (n : Nat) : pow a n = pow a (n % 255) := by
  have e := Nat.div_add_mod n 255
  calc pow a n = pow a (255 * (n / 255) + n % 255) := by rw [e]
    _ = pow a (n % 255) := by rw [pow_add ha, pow_mul ha, pow_255 ha h, one_pow, one_mul (pow_lt ha _)]
theorem zero_pow : ∀ n, pow 0 (n + 1) = 0 := fun n => by rw [pow]; exact mul_zero _
end Gf
end Go.Proofs.YtkfipfhmbhmamaaDoor

namespace Go.Proofs.YtkfipfhmbhmamaaDoor
open Go.RowKit

namespace Mat
/-- The product of elements, as bytes. -/
def fm (a b : UInt8) : UInt8 := UInt8.ofNat (Gf.mul a.toNat b.toNat)
def fi (a : UInt8) : UInt8 := UInt8.ofNat (Gf.inv a.toNat)
theorem lt (a : UInt8) : a.toNat < 256 := UInt8.toNat_lt a
theorem fm_toNat (a b : UInt8) : (fm a b).toNat = Gf.mul a.toNat b.toNat := by
  unfold fm
  rw [UInt8.toNat_ofNat']
  exact Nat.mod_eq_of_lt (Gf.mul_lt (lt a) (lt b))
theorem ext8 {a b : UInt8} (h : a.toNat = b.toNat) : a = b := UInt8.toNat_inj.1 h
theorem fm_comm (a b : UInt8) : fm a b = fm b a := ext8 (by rw [fm_toNat, fm_toNat, Gf.mul_comm (lt a) (lt b)])
theorem fm_assoc (a b c : UInt8) : fm (fm a b) c = fm a (fm b c) := ext8 (by rw [fm_toNat, fm_toNat, fm_toNat, fm_toNat, Gf.mul_assoc (lt a) (lt b) (lt c)])
theorem fm_one (a : UInt8) : fm a 1 = a := ext8 (by rw [fm_toNat]; exact Gf.mul_one (lt a))
theorem one_fm (a : UInt8) : fm 1 a = a := by rw [fm_comm, fm_one]
theorem fm_zero (a : UInt8) : fm a 0 = 0 := ext8 (by rw [fm_toNat]; exact Gf.mul_zero _)
theorem zero_fm (a : UInt8) : fm 0 a = 0 := by rw [fm_comm, fm_zero]
theorem fm_xor (a b c : UInt8) : fm a (b ^^^ c) = fm a b ^^^ fm a c := ext8 (by rw [fm_toNat, UInt8.toNat_xor, UInt8.toNat_xor, fm_toNat, fm_toNat, Gf.mul_xor])
theorem xor_fm (a b c : UInt8) : fm (a ^^^ b) c = fm a c ^^^ fm b c := by rw [fm_comm, fm_xor, fm_comm c, fm_comm c]
theorem fm_fi {a : UInt8} (h : a ≠ 0) : fm a (fi a) = 1 := by
  have h0 : a.toNat ≠ 0 := fun e => h (ext8 e)
  apply ext8
  unfold fi
  rw [fm_toNat, UInt8.toNat_ofNat', Nat.mod_eq_of_lt (Gf.inv_lt (lt a) h0), Gf.mul_inv (lt a) h0]
  rfl
theorem fi_fm {a : UInt8} (h : a ≠ 0) : fm (fi a) a = 1 := by rw [fm_comm, fm_fi h]
theorem fm_eq_zero {a b : UInt8} (h : fm a b = 0) : a = 0 ∨ b = 0 := by
  by_cases ha : a = 0
  · exact .inl ha
  · refine .inr ?_
    have : fm (fi a) (fm a b) = 0 := by rw [h, fm_zero]
    rwa [← fm_assoc, fi_fm ha, one_fm] at this
theorem one_ne : (1 : UInt8) ≠ 0 := by decide
theorem xor4 (a b c d : UInt8) : (a ^^^ b) ^^^ (c ^^^ d) = (a ^^^ c) ^^^ (b ^^^ d) := by
  rw [UInt8.xor_assoc, UInt8.xor_assoc, ← UInt8.xor_assoc b, UInt8.xor_comm b c, UInt8.xor_assoc c]
theorem xor_eq_zero {a b : UInt8} (h : a ^^^ b = 0) : a = b := by
  have : a ^^^ b ^^^ b = b := by rw [h, UInt8.zero_xor]
  rwa [UInt8.xor_assoc, UInt8.xor_self, UInt8.xor_zero] at this

/-- The sum of n elements. -/
def sum : Nat → (Nat → UInt8) → UInt8
  | 0, _ => 0
  | n + 1, f => sum n f ^^^ f n
theorem sum_congr : ∀ {n : Nat} {f g : Nat → UInt8}, (∀ k, k < n → f k = g k) → sum n f = sum n g
  | 0, _, _, _ => rfl
  | n + 1, f, g, h => by rw [sum, sum, sum_congr (fun k hk => h k (by omega)), h n (by omega)]
theorem sum_zero : ∀ (n : Nat) {f : Nat → UInt8}, (∀ k, k < n → f k = 0) → sum n f = 0
  | 0, _, _ => rfl
  | n + 1, f, h => by rw [sum, sum_zero n (fun k hk => h k (by omega)), h n (by omega)]; rfl
theorem sum_xor : ∀ (n : Nat) (f g : Nat → UInt8), sum n (fun k => f k ^^^ g k) = sum n f ^^^ sum n g
  | 0, _, _ => by simp [sum]
  | n + 1, f, g => by rw [sum, sum, sum, sum_xor n f g, xor4]
theorem sum_fm (c : UInt8) : ∀ (n : Nat) (f : Nat → UInt8), sum n (fun k => fm c (f k)) = fm c (sum n f)
  | 0, _ => (fm_zero c).symm
  | n + 1, f => by rw [sum, sum, sum_fm c n f, fm_xor]
theorem fm_sum (c : UInt8) (n : Nat) (f : Nat → UInt8) : sum n (fun k => fm (f k) c) = fm (sum n f) c := by
  rw [fm_comm, ← sum_fm]
  exact sum_congr fun k _ => fm_comm _ _
theorem sum_swap (m : Nat) : ∀ (n : Nat) (f : Nat → Nat → UInt8), sum n (fun i => sum m fun j => f i j) = sum m (fun j => sum n fun i => f i j)
  | 0, f => (sum_zero m fun _ _ => rfl).symm
  | n + 1, f => by
    rw [sum, sum_swap m n f, ← sum_xor]
    rfl
/-- All but one of the terms are 0. -/
theorem sum_one {n i : Nat} {f : Nat → UInt8} (hi : i < n) (h : ∀ k, k < n → k ≠ i → f k = 0) : sum n f = f i := by
  induction n with
  | zero => omega
  | succ n ih =>
    rw [sum]
    by_cases hin : i = n
    · subst hin
      rw [sum_zero i (fun k hk => h k (by omega) (by omega)), UInt8.zero_xor]
    · rw [ih (by omega) (fun k hk hki => h k (by omega) hki), h n (by omega) (fun e => hin e.symm), UInt8.xor_zero]

abbrev M := Nat → Nat → UInt8
/-- The product of matrices; n: the inner size. -/
def mm (n : Nat) (A B : M) : M := fun i j => sum n fun k => fm (A i k) (B k j)
def one : M := fun i j => if i = j then 1 else 0
theorem mm_assoc (m n : Nat) (A B C : M) (i j : Nat) : mm n (mm m A B) C i j = mm m A (mm n B C) i j := by
  unfold mm
  have h1 : (fun k => fm (sum m fun l => fm (A i l) (B l k)) (C k j)) = fun k => sum m fun l => fm (fm (A i l) (B l k)) (C k j) := by
    funext k
    rw [fm_sum]
  have h2 : (fun l => fm (A i l) (sum n fun k => fm (B l k) (C k j))) = fun l => sum n fun k => fm (fm (A i l) (B l k)) (C k j) := by
    funext l
    rw [← sum_fm]
    exact sum_congr fun k _ => (fm_assoc _ _ _).symm
  rw [h1, h2]
  exact sum_swap m n _
theorem mm_one {n j : Nat} (A : M) (i : Nat) (hj : j < n) : mm n A one i j = A i j := by
  unfold mm
  rw [sum_one hj (fun k _ hk => by rw [one, if_neg hk, fm_zero]), one, if_pos rfl, fm_one]
theorem one_mm {n i : Nat} (A : M) (j : Nat) (hi : i < n) : mm n one A i j = A i j := by
  unfold mm
  rw [sum_one hi (fun k _ hk => by rw [one, if_neg (fun e => hk e.symm), zero_fm]), one, if_pos rfl, one_fm]
theorem mm_congr {n : Nat} {A A' B B' : M} {i j : Nat} (hA : ∀ k, k < n → A i k = A' i k) (hB : ∀ k, k < n → B k j = B' k j) : mm n A B i j = mm n A' B' i j :=
  sum_congr fun k hk => by rw [hA k hk, hB k hk]

/-- X is the inverse of A, of n rows. -/
def Inv (n : Nat) (A X : M) : Prop := (∀ i j, i < n → j < n → mm n A X i j = one i j) ∧ (∀ i j, i < n → j < n → mm n X A i j = one i j)
theorem sides {n : Nat} {A X Y : M} (hX : ∀ i j, i < n → j < n → mm n X A i j = one i j) (hY : ∀ i j, i < n → j < n → mm n A Y i j = one i j) (i j : Nat) (hi : i < n) (hj : j < n) : X i j = Y i j := by
  have h1 := mm_assoc n n X A Y i j
  rw [mm_congr (A' := one) (B' := Y) (fun k hk => hX i k hi hk) (fun _ _ => rfl), one_mm _ _ hi] at h1
  rw [mm_congr (A := X) (A' := X) (B' := one) (fun _ _ => rfl) (fun k hk => hY k j hk hj), mm_one _ _ hj] at h1
  exact h1.symm
theorem Inv.only {n : Nat} {A X Y : M} (hX : Inv n A X) (hY : Inv n A Y) (i j : Nat) (hi : i < n) (hj : j < n) : X i j = Y i j := sides hX.2 hY.1 i j hi hj
/-- v, not all 0, times which A is 0. -/
def Ker (n : Nat) (A : M) (v : Nat → UInt8) : Prop := (∃ i, i < n ∧ v i ≠ 0) ∧ ∀ i, i < n → sum n (fun k => fm (A i k) (v k)) = 0
theorem Ker.none {n : Nat} {A X : M} {v : Nat → UInt8} (h : Ker n A v) (hX : ∀ i j, i < n → j < n → mm n X A i j = one i j) : False := by
  obtain ⟨⟨i, hi, hv⟩, hk⟩ := h
  have h1 := mm_assoc n n X A (fun k _ => v k) i 0
  rw [mm_congr (A' := one) (B' := fun k _ => v k) (fun k hk => hX i k hi hk) (fun _ _ => rfl), one_mm _ _ hi] at h1
  have h2 : mm n X (mm n A fun k _ => v k) i 0 = 0 := sum_zero n fun k hkn => by
    show fm (X i k) (sum n fun l => fm (A k l) (v l)) = 0
    rw [hk k hkn, fm_zero]
  exact hv (h1.trans h2)
/-- v, not all 0, which times A is 0. -/
def KerL (n m : Nat) (A : M) (v : Nat → UInt8) : Prop := (∃ i, i < n ∧ v i ≠ 0) ∧ ∀ j, j < m → sum n (fun k => fm (v k) (A k j)) = 0
theorem KerL.none {n : Nat} {A X : M} {v : Nat → UInt8} (h : KerL n n A v) (hX : ∀ i j, i < n → j < n → mm n A X i j = one i j) : False := by
  obtain ⟨⟨i, hi, hv⟩, hk⟩ := h
  have h1 := mm_assoc n n (fun _ k => v k) A X 0 i
  rw [mm_congr (A := fun _ k => v k) (A' := fun _ k => v k) (B' := one) (fun _ _ => rfl) (fun k hk => hX k i hk hi), mm_one _ _ hi] at h1
  have h2 : mm n (mm n (fun _ k => v k) A) X 0 i = 0 := sum_zero n fun k hkn => by
    show fm (sum n fun l => fm (v l) (A l k)) (X k i) = 0
    rw [hk k hkn, zero_fm]
  exact hv (h1.symm.trans h2)

/-! ### Gauss -/
/-- L is X times A; X can be undone. -/
def Gs (n : Nat) (A L X : M) : Prop := (∀ i j, i < n → j < n → L i j = mm n X A i j) ∧ ∃ E, ∀ i j, i < n → j < n → mm n E X i j = one i j
theorem Gs.start (n : Nat) (A : M) {L X : M} (hL : ∀ i j, i < n → j < n → L i j = A i j) (hX : ∀ i j, i < n → j < n → X i j = one i j) : Gs n A L X :=
  ⟨fun i j hi hj => by rw [mm_congr (A' := one) (B' := A) (fun k hk => hX i k hi hk) (fun _ _ => rfl), one_mm _ _ hi, hL i j hi hj], one, fun i j hi hj => by rw [one_mm _ _ hi, hX i j hi hj]⟩
/-- A step that can be undone. -/
theorem Gs.step {n : Nat} {A L X L' X' : M} (h : Gs n A L X) (P Q : M) (hQ : ∀ i j, i < n → j < n → mm n Q P i j = one i j) (hL : ∀ i j, i < n → j < n → L' i j = mm n P L i j) (hX : ∀ i j, i < n → j < n → X' i j = mm n P X i j) : Gs n A L' X' := by
  obtain ⟨h1, E, h2⟩ := h
  refine ⟨fun i j hi hj => ?_, mm n E Q, fun i j hi hj => ?_⟩
  · rw [hL i j hi hj, mm_congr (A := P) (A' := P) (B' := mm n X A) (fun _ _ => rfl) (fun k hk => h1 k j hk hj), ← mm_assoc]
    exact mm_congr (fun k hk => (hX i k hi hk).symm) (fun _ _ => rfl)
  · have e1 : mm n (mm n E Q) X' i j = mm n (mm n E Q) (mm n P X) i j := mm_congr (fun _ _ => rfl) (fun k hk => hX k j hk hj)
    have e2 : mm n Q (mm n P X) = mm n (mm n Q P) X := by funext a b; rw [mm_assoc]
    rw [e1, mm_assoc, e2, ← h2 i j hi hj]
    refine mm_congr (fun _ _ => rfl) fun k hk => ?_
    rw [mm_congr (A' := one) (B' := X) (fun l hl => hQ k l hk hl) (fun _ _ => rfl), one_mm _ _ hk]
theorem Gs.done {n : Nat} {A L X : M} (h : Gs n A L X) (hL : ∀ i j, i < n → j < n → L i j = one i j) : Inv n A X := by
  obtain ⟨h1, E, h2⟩ := h
  have h3 : ∀ i j, i < n → j < n → mm n X A i j = one i j := fun i j hi hj => by rw [← h1 i j hi hj, hL i j hi hj]
  refine ⟨fun i j hi hj => ?_, h3⟩
  have e := sides (A := X) (X := E) (Y := A) h2 h3
  rw [← h2 i j hi hj]
  exact mm_congr (fun k hk => (e i k hi hk).symm) (fun _ _ => rfl)
/-- What L takes to 0, A takes to 0. -/
theorem Gs.ker {n : Nat} {A L X : M} (h : Gs n A L X) {v : Nat → UInt8} (hv : Ker n L v) : Ker n A v := by
  obtain ⟨h1, E, h2⟩ := h
  refine ⟨hv.1, fun i hi => ?_⟩
  have e1 : ∀ k, k < n → mm n X (mm n A fun l _ => v l) k 0 = 0 := fun k hk => by
    rw [← mm_assoc, ← hv.2 k hk]
    exact mm_congr (A' := L) (B' := fun l _ => v l) (fun l hl => (h1 k l hk hl).symm) (fun _ _ => rfl)
  have e2 : mm n (mm n E X) (mm n A fun l _ => v l) i 0 = 0 := by
    rw [mm_assoc]
    exact sum_zero n fun k hk => by rw [e1 k hk, fm_zero]
  rw [mm_congr (A' := one) (B' := mm n A fun l _ => v l) (fun k hk => h2 i k hi hk) (fun _ _ => rfl), one_mm _ _ hi] at e2
  exact e2
/-- Column i has no pivot from row i on: A has a vector that it takes to 0. -/
theorem Gs.flat {n i : Nat} {A L X : M} (h : Gs n A L X) (hi : i < n) (hU : ∀ k j, k < n → j < i → L k j = one k j) (h0 : ∀ p, i ≤ p → p < n → L p i = 0) : ∃ v, Ker n A v := by
  refine ⟨fun j => if j < i then L j i else if j = i then 1 else 0, h.ker ⟨⟨i, hi, by simp⟩, fun k hk => ?_⟩⟩
  by_cases hki : k < i
  · have e : sum n (fun j => fm (L k j) (if j < i then L j i else if j = i then 1 else 0)) = sum n (fun j => (if j = k then L k i else 0) ^^^ (if j = i then L k i else 0)) := by
      refine sum_congr fun j hj => ?_
      by_cases hji : j < i
      · rw [if_pos hji, hU k j hk hji, one]
        by_cases hjk : k = j
        · subst hjk
          rw [if_pos rfl, if_pos rfl, if_neg (by omega), one_fm, UInt8.xor_zero]
        · rw [if_neg hjk, if_neg (fun e => hjk e.symm), if_neg (by omega), zero_fm]; rfl
      · by_cases hj2 : j = i
        · subst hj2
          rw [if_neg hji, if_pos rfl, if_neg (by omega), if_pos rfl, fm_one, UInt8.zero_xor]
        · rw [if_neg hji, if_neg hj2, if_neg (by omega), if_neg hj2, fm_zero]; rfl
    rw [e, sum_xor, sum_one hk (fun j _ hj => if_neg hj), sum_one hi (fun j _ hj => if_neg hj), if_pos rfl, if_pos rfl, UInt8.xor_self]
  · refine sum_zero n fun j hj => ?_
    show fm (L k j) (if j < i then L j i else if j = i then 1 else 0) = 0
    by_cases hji : j < i
    · rw [hU k j hk hji, one, if_neg (by omega), zero_fm]
    · by_cases hj2 : j = i
      · subst hj2
        rw [h0 k (by omega) hk, zero_fm]
      · rw [if_neg hji, if_neg hj2, fm_zero]
end Mat
end Go.Proofs.YtkfipfhmbhmamaaDoor

namespace Go.Proofs.YtkfipfhmbhmamaaDoor
open Go.RowKit

namespace Mat
/-- Rows a and b change places. -/
def sw (a b k : Nat) : Nat := if k = a then b else if k = b then a else k
theorem sw_sw (a b k : Nat) : sw a b (sw a b k) = k := by
  unfold sw
  split <;> split <;> simp_all
theorem sw_lt {a b k n : Nat} (ha : a < n) (hb : b < n) (hk : k < n) : sw a b k < n := by
  unfold sw
  split
  · exact hb
  · split
    · exact ha
    · exact hk
theorem Gs.swap {n a b : Nat} {A L X : M} (h : Gs n A L X) (ha : a < n) (hb : b < n) : Gs n A (fun i => L (sw a b i)) (fun i => X (sw a b i)) := by
  have hP : ∀ (B : M) i j, i < n → mm n (fun i k => one (sw a b i) k) B i j = B (sw a b i) j := fun B i j hi => one_mm B j (sw_lt ha hb hi)
  refine h.step (fun i k => one (sw a b i) k) (fun i k => one (sw a b i) k) (fun i j hi _ => ?_) (fun i j hi _ => (hP L i j hi).symm) (fun i j hi _ => (hP X i j hi).symm)
  rw [hP _ i j hi]
  show one (sw a b (sw a b i)) j = one i j
  rw [sw_sw]
/-- Row a is multiplied by c. -/
theorem Gs.scale {n a : Nat} {A L X : M} {c : UInt8} (h : Gs n A L X) (hc : c ≠ 0) : Gs n A (fun i j => if i = a then fm (L i j) c else L i j) (fun i j => if i = a then fm (X i j) c else X i j) := by
  have hP : ∀ (d : UInt8) (B : M) i j, i < n → mm n (fun i k => if i = k then (if i = a then d else 1) else 0) B i j = if i = a then fm (B i j) d else B i j := fun d B i j hi => by
    show sum n (fun k => fm (if i = k then (if i = a then d else 1) else 0) (B k j)) = _
    rw [sum_one hi (fun k _ hk => by rw [if_neg (fun e => hk e.symm), zero_fm]), if_pos rfl]
    split
    · exact fm_comm _ _
    · exact one_fm _
  refine h.step (fun i k => if i = k then (if i = a then c else 1) else 0) (fun i k => if i = k then (if i = a then fi c else 1) else 0) (fun i j hi hj => ?_) (fun i j hi _ => (hP c L i j hi).symm) (fun i j hi _ => (hP c X i j hi).symm)
  rw [hP (fi c) _ i j hi, one]
  by_cases hij : i = j
  · subst hij
    by_cases hia : i = a
    · rw [if_pos hia, if_pos rfl, if_pos hia, if_pos rfl, fm_fi hc]
    · rw [if_neg hia, if_pos rfl, if_neg hia, if_pos rfl]
  · rw [if_neg hij, if_neg hij, zero_fm, ite_self]
/-- To row b row a is added, times d. -/
theorem Gs.add {n a b : Nat} {A L X : M} {d : UInt8} (h : Gs n A L X) (ha : a < n) (hab : b ≠ a) : Gs n A (fun i j => if i = b then L i j ^^^ fm d (L a j) else L i j) (fun i j => if i = b then X i j ^^^ fm d (X a j) else X i j) := by
  have hP : ∀ (B : M) i j, i < n → mm n (fun i k => one i k ^^^ (if i = b then (if k = a then d else 0) else 0)) B i j = if i = b then B i j ^^^ fm d (B a j) else B i j := fun B i j hi => by
    have e : mm n (fun i k => one i k ^^^ (if i = b then (if k = a then d else 0) else 0)) B i j = sum n (fun k => fm (one i k) (B k j) ^^^ fm (if i = b then (if k = a then d else 0) else 0) (B k j)) := sum_congr fun k _ => xor_fm _ _ _
    have e1 : sum n (fun k => fm (one i k) (B k j)) = B i j := one_mm B j hi
    rw [e, sum_xor, e1]
    by_cases hib : i = b
    · rw [if_pos hib]
      have e2 : sum n (fun k => fm (if i = b then (if k = a then d else 0) else 0) (B k j)) = fm d (B a j) := by
        rw [sum_one ha (fun k _ hk => by rw [if_pos hib, if_neg hk, zero_fm]), if_pos hib, if_pos rfl]
      rw [e2]
    · rw [if_neg hib, sum_zero n (fun k _ => by rw [if_neg hib, zero_fm]), UInt8.xor_zero]
  refine h.step _ (fun i k => one i k ^^^ (if i = b then (if k = a then d else 0) else 0)) (fun i j hi hj => ?_) (fun i j hi _ => (hP L i j hi).symm) (fun i j hi _ => (hP X i j hi).symm)
  rw [hP _ i j hi]
  by_cases hib : i = b
  · rw [if_pos hib]
    show (one i j ^^^ (if i = b then (if j = a then d else 0) else 0)) ^^^ fm d (one a j ^^^ (if a = b then (if j = a then d else 0) else 0)) = one i j
    rw [if_pos hib, if_neg (show ¬ a = b from fun e => hab e.symm), UInt8.xor_zero]
    by_cases hja : j = a
    · have e : one a a = 1 := if_pos rfl
      rw [if_pos hja, hja, e, fm_one, UInt8.xor_assoc, UInt8.xor_self, UInt8.xor_zero]
    · have e : one a j = 0 := if_neg (fun e => hja e.symm)
      rw [if_neg hja, e, fm_zero, UInt8.xor_zero, UInt8.xor_zero]
  · rw [if_neg hib]
    show one i j ^^^ (if i = b then (if j = a then d else 0) else 0) = one i j
    rw [if_neg hib, UInt8.xor_zero]

/-! ### Any matrix has an inverse, or takes something to 0 -/
/-- Rows 0 to k, but row i, are cleared in column i. -/
theorem Gs.clear {n i : Nat} {A L X : M} (h : Gs n A L X) (hi : i < n) (h1 : L i i = 1) (hU : ∀ k j, k < n → j < i → L k j = one k j) : ∀ m, m ≤ n →
    ∃ L' X', Gs n A L' X' ∧ (∀ j, j < n → L' i j = L i j) ∧ (∀ k j, k < n → j < i → L' k j = one k j) ∧ ∀ k, k < m → L' k i = one k i
  | 0, _ => ⟨L, X, h, fun _ _ => rfl, hU, fun k hk => by omega⟩
  | m + 1, hm => by
    obtain ⟨L1, X1, g, a1, a2, a3⟩ := Gs.clear h hi h1 hU m (by omega)
    have hii : L1 i i = 1 := by rw [a1 i hi, h1]
    by_cases hmi : m = i
    · refine ⟨L1, X1, g, a1, a2, fun k hk => ?_⟩
      by_cases hkm : k < m
      · exact a3 k hkm
      · obtain rfl : k = i := by omega
        rw [hii, one, if_pos rfl]
    · refine ⟨_, _, g.add (d := L1 m i) hi hmi, fun j hj => ?_, fun k j hk hj => ?_, fun k hk => ?_⟩
      · show (if i = m then _ else L1 i j) = L i j
        rw [if_neg (fun e => hmi e.symm), a1 j hj]
      · show (if k = m then L1 k j ^^^ fm (L1 m i) (L1 i j) else L1 k j) = one k j
        have e0 : L1 i j = 0 := by rw [a2 i j hi hj, one, if_neg (by omega)]
        rw [e0, fm_zero, UInt8.xor_zero, ite_self, a2 k j hk hj]
      · show (if k = m then L1 k i ^^^ fm (L1 m i) (L1 i i) else L1 k i) = one k i
        by_cases hkm : k = m
        · rw [if_pos hkm, hii, fm_one, hkm, UInt8.xor_self, one, if_neg hmi]
        · rw [if_neg hkm, a3 k (by omega)]
theorem Gs.total {n : Nat} (A : M) : ∀ i, i ≤ n → (∃ v, Ker n A v) ∨ ∃ L X, Gs n A L X ∧ ∀ k j, k < n → j < i → L k j = one k j
  | 0, _ => .inr ⟨A, one, Gs.start n A (fun _ _ _ _ => rfl) (fun _ _ _ _ => rfl), fun k j _ hj => by omega⟩
  | i + 1, hi => by
    rcases Gs.total (n := n) A i (by omega) with h | ⟨L, X, g, hU⟩
    · exact .inl h
    by_cases hp : ∃ p, i ≤ p ∧ p < n ∧ L p i ≠ 0
    · obtain ⟨p, hip, hpn, hp0⟩ := hp
      have g1 := g.swap (a := i) (b := p) (by omega) hpn
      have hU1 : ∀ k j, k < n → j < i → L (sw i p k) j = one k j := fun k j hk hj => by
        rw [hU _ j (sw_lt (by omega) hpn hk) hj]
        unfold sw one
        by_cases h1 : k = i
        · rw [if_pos h1, if_neg (by omega), if_neg (by omega)]
        · rw [if_neg h1]
          by_cases h2 : k = p
          · rw [if_pos h2, if_neg (by omega), if_neg (by omega)]
          · rw [if_neg h2]
      have hii : L (sw i p i) i ≠ 0 := by
        unfold sw
        rw [if_pos rfl]
        exact hp0
      have hfi : fi (L (sw i p i) i) ≠ 0 := fun e => by
        have := fm_fi hii
        rw [e, fm_zero] at this
        exact one_ne this.symm
      have g2 := g1.scale (a := i) hfi
      obtain ⟨L3, X3, g3, a1, a2, a3⟩ := Gs.clear g2 (i := i) (by omega) (by show (if i = i then fm (L (sw i p i) i) (fi (L (sw i p i) i)) else _) = 1; rw [if_pos rfl, fm_fi hii])
        (fun k j hk hj => by
          show (if k = i then fm (L (sw i p k) j) _ else L (sw i p k) j) = one k j
          rw [hU1 k j hk hj]
          by_cases hki : k = i
          · rw [if_pos hki, one, if_neg (by omega), zero_fm]
          · rw [if_neg hki]) n (Nat.le_refl _)
      refine .inr ⟨L3, X3, g3, fun k j hk hj => ?_⟩
      by_cases hji : j < i
      · exact a2 k j hk hji
      · obtain rfl : j = i := by omega
        exact a3 k hk
    · exact .inl (g.flat (i := i) (by omega) hU (fun p h1 h2 => Decidable.of_not_not fun h3 => hp ⟨p, h1, h2, h3⟩))
/-- Any matrix has an inverse, or takes something to 0. -/
theorem inv_or_ker (n : Nat) (A : M) : (∃ X, Inv n A X) ∨ ∃ v, Ker n A v := by
  rcases Gs.total (n := n) A n (Nat.le_refl _) with h | ⟨L, X, g, hU⟩
  · exact .inr h
  · exact .inl ⟨X, g.done fun i j hi hj => hU i j hi hj⟩
end Mat
end Go.Proofs.YtkfipfhmbhmamaaDoor

namespace Go.Proofs.YtkfipfhmbhmamaaDoor
open Go.RowKit

namespace Mat
theorem Gs.congr {n : Nat} {A L X L' X' : M} (h : Gs n A L X) (hL : ∀ i j, i < n → j < n → L' i j = L i j) (hX : ∀ i j, i < n → j < n → X' i j = X i j) : Gs n A L' X' := by
  obtain ⟨h1, E, h2⟩ := h
  exact ⟨fun i j hi hj => by rw [hL i j hi hj, h1 i j hi hj]; exact mm_congr (fun k hk => (hX i k hi hk).symm) (fun _ _ => rfl), E, fun i j hi hj => by rw [← h2 i j hi hj]; exact mm_congr (fun _ _ => rfl) (fun k hk => hX k j hk hj)⟩
/-- The rows with the identity's behind them. -/
def both (n : Nat) (A : M) : M := fun i j => if j < n then A i j else if j - n = i then 1 else 0
/-- The first i columns are cleared. -/
def Inner (n i : Nat) (A F : M) : Prop := Gs n A F (fun a b => F a (n + b)) ∧ ∀ a b, a < n → b < i → F a b = one a b
theorem Inner.start (n : Nat) (A : M) : Inner n 0 A (both n A) := by
  refine ⟨Gs.start n A (fun a b _ hb => if_pos hb) (fun a b _ hb => ?_), fun a b _ hb => absurd hb (by omega)⟩
  show (if n + b < n then A a (n + b) else if n + b - n = a then 1 else 0) = one a b
  rw [if_neg (by omega), Nat.add_sub_cancel_left]
  unfold one
  by_cases h : a = b
  · rw [if_pos h, if_pos h.symm]
  · rw [if_neg h, if_neg (fun e => h e.symm)]
theorem Inner.swap {n i p : Nat} {A F : M} (h : Inner n i A F) (hi : i < n) (hp : p < n) (hip : i ≤ p) : Inner n i A (fun a => F (sw i p a)) := by
  refine ⟨h.1.swap hi hp, fun k j hk hj => ?_⟩
  show F (sw i p k) j = one k j
  rw [h.2 _ j (sw_lt hi hp hk) hj]
  unfold sw one
  by_cases h1 : k = i
  · rw [if_pos h1, if_neg (by omega), if_neg (by omega)]
  · rw [if_neg h1]
    by_cases h2 : k = p
    · rw [if_pos h2, if_neg (by omega), if_neg (by omega)]
    · rw [if_neg h2]
theorem sw_here (i p : Nat) : sw i p i = p := if_pos rfl
theorem Inner.scale {n i : Nat} {A F : M} (h : Inner n i A F) (h0 : F i i ≠ 0) : Inner n i A (fun a b => if a = i then fm (F a b) (fi (F i i)) else F a b) ∧ (if i = i then fm (F i i) (fi (F i i)) else F i i) = 1 := by
  have hfi : fi (F i i) ≠ 0 := fun e => by
    have := fm_fi h0
    rw [e, fm_zero] at this
    exact one_ne this.symm
  refine ⟨⟨h.1.scale (a := i) hfi, fun k j hk hj => ?_⟩, by rw [if_pos rfl, fm_fi h0]⟩
  show (if k = i then fm (F k j) (fi (F i i)) else F k j) = one k j
  rw [h.2 k j hk hj]
  by_cases hki : k = i
  · rw [if_pos hki, one, if_neg (by omega), zero_fm]
  · rw [if_neg hki]
theorem Inner.add {n i k : Nat} {A F : M} (h : Inner n i A F) (hi : i < n) (h1 : F i i = 1) (hki : k ≠ i) (hc : ∀ a, a < k → F a i = one a i) :
    Inner n i A (fun a b => if a = k then F a b ^^^ fm (F k i) (F i b) else F a b) ∧ (if i = k then F i i ^^^ fm (F k i) (F i i) else F i i) = 1 ∧ ∀ a, a < k + 1 → (if a = k then F a i ^^^ fm (F k i) (F i i) else F a i) = one a i := by
  refine ⟨⟨h.1.add (d := F k i) hi hki, fun a b ha hb => ?_⟩, by rw [if_neg (fun e => hki e.symm), h1], fun a ha => ?_⟩
  · show (if a = k then F a b ^^^ fm (F k i) (F i b) else F a b) = one a b
    have e0 : F i b = 0 := by rw [h.2 i b hi hb, one, if_neg (by omega)]
    rw [e0, fm_zero, UInt8.xor_zero, ite_self, h.2 a b ha hb]
  · by_cases hak : a = k
    · rw [if_pos hak, h1, fm_one, hak, UInt8.xor_self, one, if_neg hki]
    · rw [if_neg hak, hc a (by omega)]
theorem Inner.next {n i : Nat} {A F : M} (h : Inner n i A F) (hc : ∀ a, a < n → F a i = one a i) : Inner n (i + 1) A F :=
  ⟨h.1, fun a b ha hb => by
    by_cases hbi : b < i
    · exact h.2 a b ha hbi
    · obtain rfl : b = i := by omega
      exact hc a ha⟩
theorem Inner.flat {n i : Nat} {A F : M} (h : Inner n i A F) (hi : i < n) (h0 : ∀ p, i ≤ p → p < n → F p i = 0) : ∃ v, Ker n A v := h.1.flat hi h.2 h0
theorem Inner.done {n : Nat} {A F : M} (h : Inner n n A F) : Inv n A (fun a b => F a (n + b)) := h.1.done h.2
theorem fi_toNat {a : UInt8} (h : a ≠ 0) : (fi a).toNat = Gf.inv a.toNat := by
  have h0 : a.toNat ≠ 0 := fun e => h (ext8 e)
  unfold fi
  rw [UInt8.toNat_ofNat', Nat.mod_eq_of_lt (Gf.inv_lt (lt a) h0)]
end Mat
end Go.Proofs.YtkfipfhmbhmamaaDoor

namespace Go.Proofs.YtkfipfhmbhmamaaDoor
open Go.RowKit

namespace Mat
/-! ### Ranks -/
/-- The sum of n rows of T, each times its element. -/
def comb (n : Nat) (x : Nat → UInt8) (T : M) (j : Nat) : UInt8 := sum n fun k => fm (x k) (T k j)
def Indep (n c : Nat) (T : M) : Prop := ∀ x, (∀ j, j < c → comb n x T j = 0) → ∀ k, k < n → x k = 0
def InSpan (n c : Nat) (T : M) (v : Nat → UInt8) : Prop := ∃ x, ∀ j, j < c → v j = comb n x T j
theorem wide {n k : Nat} (C : M) (h : k < n) : ∃ x : Nat → UInt8, (∃ i, i < n ∧ x i ≠ 0) ∧ ∀ j, j < k → sum n (fun i => fm (x i) (C i j)) = 0 := by
  rcases inv_or_ker n (fun i j => if i < k then C j i else 0) with ⟨X, hX, _⟩ | ⟨v, hv, hz⟩
  · have h1 := hX k k h h
    have h2 : mm n (fun i j => if i < k then C j i else 0) X k k = 0 := sum_zero n fun l _ => by
      show fm (if k < k then C l k else 0) (X l k) = 0
      rw [if_neg (by omega), zero_fm]
    rw [h2, one, if_pos rfl] at h1
    exact absurd h1.symm one_ne
  · refine ⟨v, hv, fun j hj => ?_⟩
    rw [← hz j (by omega)]
    refine sum_congr fun i _ => ?_
    show fm (v i) (C i j) = fm (if j < k then C i j else 0) (v i)
    rw [if_pos hj, fm_comm]
/-- Rows that are independent, and sums of others, are no more than these. -/
theorem Indep.le {n k c : Nat} {T S : M} (hT : Indep n c T) (hS : ∀ i, i < n → InSpan k c S (T i)) : n ≤ k := by
  rcases Nat.lt_or_ge k n with h | h
  · exfalso
    have hc : ∀ i, ∃ x, i < n → ∀ j, j < c → T i j = comb k x S j := fun i => by
      by_cases hi : i < n
      · obtain ⟨x, hx⟩ := hS i hi
        exact ⟨x, fun _ => hx⟩
      · exact ⟨fun _ => 0, fun h => absurd h hi⟩
    obtain ⟨C, hC⟩ := Classical.axiomOfChoice hc
    obtain ⟨x, ⟨i, hi, hxi⟩, hz⟩ := wide (n := n) (k := k) C h
    refine hxi (hT x (fun j hj => ?_) i hi)
    have e : comb n x T j = sum n (fun i => sum k fun l => fm (fm (x i) (C i l)) (S l j)) := sum_congr fun i hi => by
      rw [hC i hi j hj]
      unfold comb
      rw [← sum_fm]
      exact sum_congr fun l _ => (fm_assoc _ _ _).symm
    rw [e, sum_swap]
    exact sum_zero k fun l hl => by rw [fm_sum, hz l hl, zero_fm]
  · exact h
/-- A's rank (m rows, c columns) is r: r independent rows that have the same sums. -/
def HasRank (m c : Nat) (A : M) (r : Nat) : Prop := ∃ T, Indep r c T ∧ (∀ i, i < r → InSpan m c A (T i)) ∧ ∀ i, i < m → InSpan r c T (A i)
theorem InSpan.trans {n k c : Nat} {T S : M} {v : Nat → UInt8} (hv : InSpan n c T v) (h : ∀ i, i < n → InSpan k c S (T i)) : InSpan k c S v := by
  obtain ⟨x, hx⟩ := hv
  have hc : ∀ i, ∃ y, i < n → ∀ j, j < c → T i j = comb k y S j := fun i => by
    by_cases hi : i < n
    · obtain ⟨y, hy⟩ := h i hi
      exact ⟨y, fun _ => hy⟩
    · exact ⟨fun _ => 0, fun h => absurd h hi⟩
  obtain ⟨C, hC⟩ := Classical.axiomOfChoice hc
  refine ⟨fun l => sum n fun i => fm (x i) (C i l), fun j hj => ?_⟩
  have e : comb n x T j = sum n (fun i => sum k fun l => fm (fm (x i) (C i l)) (S l j)) := sum_congr fun i hi => by
    rw [hC i hi j hj]
    unfold comb
    rw [← sum_fm]
    exact sum_congr fun l _ => (fm_assoc _ _ _).symm
  rw [hx j hj, e, sum_swap]
  exact sum_congr fun l _ => fm_sum _ _ _
theorem HasRank.only {m c r s : Nat} {A : M} (h : HasRank m c A r) (k : HasRank m c A s) : r = s := by
  obtain ⟨T, h1, h2, h3⟩ := h
  obtain ⟨S, k1, k2, k3⟩ := k
  have a := h1.le fun i hi => (h2 i hi).trans k3
  have b := k1.le fun i hi => (k2 i hi).trans h3
  omega
theorem InSpan.self {n c i : Nat} (T : M) (hi : i < n) : InSpan n c T (T i) := by
  refine ⟨fun k => one i k, fun j _ => ?_⟩
  exact (one_mm T j hi).symm
/-- Rows each of which has a place that is not 0 and at which all later ones are 0. -/
theorem Indep.of_leads {n c : Nat} {T : M} (l : Nat → Nat) (hl : ∀ k, k < n → l k < c) (h1 : ∀ k, k < n → T k (l k) ≠ 0) (h2 : ∀ k k', k < k' → k' < n → T k' (l k) = 0) : Indep n c T := by
  intro x hx
  have key : ∀ m, m ≤ n → ∀ k, k < m → x k = 0 := by
    intro m
    induction m with
    | zero => intro _ k hk; omega
    | succ m ih =>
      intro hm k hk
      by_cases hkm : k < m
      · exact ih (by omega) k hkm
      · obtain rfl : k = m := by omega
        have e := hx (l k) (hl k (by omega))
        unfold comb at e
        rw [sum_one (i := k) (by omega) (fun i hi hik => by
          by_cases hlt : i < k
          · rw [ih (by omega) i hlt, zero_fm]
          · rw [h2 k i (by omega) hi, fm_zero])] at e
        rcases fm_eq_zero e with h | h
        · exact h
        · exact absurd h (h1 k (by omega))
  exact key n (Nat.le_refl _)
/-- The rows and columns change places. -/
theorem Inv.flip {n : Nat} {A X : M} (h : Inv n A X) : Inv n (fun i j => A j i) (fun i j => X j i) := by
  have hs : ∀ i j, one i j = one j i := fun i j => by
    unfold one
    by_cases hij : i = j
    · rw [if_pos hij, if_pos hij.symm]
    · rw [if_neg hij, if_neg (fun e => hij e.symm)]
  refine ⟨fun i j hi hj => ?_, fun i j hi hj => ?_⟩
  · rw [hs, ← h.2 j i hj hi]
    exact sum_congr fun k _ => fm_comm _ _
  · rw [hs, ← h.1 j i hj hi]
    exact sum_congr fun k _ => fm_comm _ _
theorem Inv.indep {n : Nat} {A X : M} (h : Inv n A X) : Indep n n A := fun x hx k hk => by
  by_cases hxk : x k = 0
  · exact hxk
  · exact absurd (KerL.none (v := x) ⟨⟨k, hk, hxk⟩, hx⟩ h.1) id
theorem Indep.inv {n : Nat} {A : M} (h : Indep n n A) : ∃ X, Inv n A X := by
  rcases inv_or_ker n (fun i j => A j i) with ⟨X, hX⟩ | ⟨v, ⟨i, hi, hv⟩, hz⟩
  · exact ⟨_, hX.flip⟩
  · refine absurd (h v (fun j hj => ?_) i hi) hv
    rw [← hz j hj]
    exact sum_congr fun k _ => fm_comm _ _
/-- There is an inverse just if the rank is all rows. -/
theorem HasRank.full {n r : Nat} {A : M} (h : HasRank n n A r) : (∃ X, Inv n A X) ↔ r = n := by
  constructor
  · rintro ⟨X, hX⟩
    exact h.only ⟨A, hX.indep, fun i hi => InSpan.self A hi, fun i hi => InSpan.self A hi⟩
  · rintro rfl
    rcases inv_or_ker r A with hX | ⟨v, hv⟩
    · exact hX
    · obtain ⟨T, h1, h2, _⟩ := h
      obtain ⟨Y, hY⟩ := h1.inv
      refine absurd (Ker.none (A := T) (v := v) ⟨hv.1, fun i hi => ?_⟩ hY.2) id
      obtain ⟨x, hx⟩ := h2 i hi
      have e : sum r (fun j => fm (T i j) (v j)) = sum r (fun j => sum r fun k => fm (fm (x k) (A k j)) (v j)) := sum_congr fun j hj => by
        rw [hx j hj, fm_sum]
        rfl
      rw [e, sum_swap]
      refine sum_zero r fun k hk => ?_
      rw [← fm_zero (x k), ← hv.2 k hk, ← sum_fm]
      exact sum_congr fun j _ => fm_assoc _ _ _

/-! ### Cauchy's matrices -/
theorem fi_ne {a : UInt8} (h : a ≠ 0) : fi a ≠ 0 := fun e => by
  have := fm_fi h
  rw [e, fm_zero] at this
  exact one_ne this.symm
theorem fi_add {a b : UInt8} (ha : a ≠ 0) (hb : b ≠ 0) : fi a ^^^ fi b = fm (a ^^^ b) (fm (fi a) (fi b)) := by
  rw [xor_fm, ← fm_assoc, fm_fi ha, one_fm, fm_comm (fi a), ← fm_assoc, fm_fi hb, one_fm, UInt8.xor_comm]
/-- The sum over pairs (place, factor) of factor by x and place. -/
def csum (x : UInt8) : List (UInt8 × UInt8) → UInt8
  | [] => 0
  | (y, v) :: l => fm v (fi (x ^^^ y)) ^^^ csum x l
theorem csum_step (x x0 y0 : UInt8) (hx : x ≠ x0) : ∀ l : List (UInt8 × UInt8), (∀ p ∈ l, x ≠ p.1 ∧ x0 ≠ p.1) →
    fm (x ^^^ y0) (csum x l) ^^^ fm (x0 ^^^ y0) (csum x0 l) = fm (x ^^^ x0) (csum x (l.map fun p => (p.1, fm p.2 (fm (p.1 ^^^ y0) (fi (x0 ^^^ p.1))))))
  | [], _ => by simp [csum, fm_zero]
  | (y, v) :: l, h => by
    have ih := csum_step x x0 y0 hx l fun p hp => h p (List.mem_cons_of_mem _ hp)
    have ha : x ^^^ y ≠ 0 := fun e => (h (y, v) (List.mem_cons_self)).1 (xor_eq_zero e)
    have hb : x0 ^^^ y ≠ 0 := fun e => (h (y, v) (List.mem_cons_self)).2 (xor_eq_zero e)
    simp only [csum, List.map_cons]
    rw [fm_xor, fm_xor, xor4, ih, fm_xor]
    congr 1
    have e1 : x ^^^ y0 = (x ^^^ y) ^^^ (y ^^^ y0) := by rw [UInt8.xor_assoc, ← UInt8.xor_assoc y, UInt8.xor_self, UInt8.zero_xor]
    have e2 : x0 ^^^ y0 = (x0 ^^^ y) ^^^ (y ^^^ y0) := by rw [UInt8.xor_assoc, ← UInt8.xor_assoc y, UInt8.xor_self, UInt8.zero_xor]
    have e3 : x ^^^ x0 = (x ^^^ y) ^^^ (x0 ^^^ y) := by rw [UInt8.xor_comm x0 y, UInt8.xor_assoc, ← UInt8.xor_assoc y, UInt8.xor_self, UInt8.zero_xor]
    rw [e1, e2, e3]
    generalize x ^^^ y = a at *
    generalize x0 ^^^ y = b at *
    generalize y ^^^ y0 = d at *
    have f1 : fm (a ^^^ d) (fm v (fi a)) = v ^^^ fm v (fm d (fi a)) := by
      rw [xor_fm, ← fm_assoc a, fm_comm a v, fm_assoc v, fm_fi ha, fm_one, ← fm_assoc d, fm_comm d v, fm_assoc]
    have f2 : fm (b ^^^ d) (fm v (fi b)) = v ^^^ fm v (fm d (fi b)) := by
      rw [xor_fm, ← fm_assoc b, fm_comm b v, fm_assoc v, fm_fi hb, fm_one, ← fm_assoc d, fm_comm d v, fm_assoc]
    rw [f1, f2, xor4, UInt8.xor_self, UInt8.zero_xor, ← fm_xor, ← fm_xor, fi_add ha hb, fm_assoc v, fm_assoc d, ← fm_assoc (a ^^^ b) v, fm_comm (a ^^^ b) v, fm_assoc v, ← fm_assoc (a ^^^ b) d, fm_comm (a ^^^ b) d, fm_assoc d, fm_comm (fi a) (fi b)]
theorem csum_zero (x : UInt8) : ∀ l : List (UInt8 × UInt8), (∀ p ∈ l, p.2 = 0) → csum x l = 0
  | [], _ => rfl
  | (y, v) :: l, h => by
    rw [csum, csum_zero x l fun p hp => h p (List.mem_cons_of_mem _ hp), show v = 0 from h (y, v) List.mem_cons_self, zero_fm]
    rfl
theorem cauchy : ∀ (ys : List (UInt8 × UInt8)) (xs : List UInt8), ys.length ≤ xs.length → xs.Nodup → (ys.map (·.1)).Nodup → (∀ x ∈ xs, ∀ p ∈ ys, x ≠ p.1) → (∀ x ∈ xs, csum x ys = 0) → ∀ p ∈ ys, p.2 = 0
  | [], _, _, _, _, _, _ => fun p hp => by cases hp
  | (y0, v0) :: ys, [], hl, _, _, _, _ => by simp at hl
  | (y0, v0) :: ys, x0 :: xs, hl, hx, hy, hne, hz => by
    rw [List.nodup_cons] at hx
    rw [List.map_cons, List.nodup_cons] at hy
    have hrest : ∀ p ∈ ys, p.2 = 0 := by
      have ih := cauchy (ys.map fun p => (p.1, fm p.2 (fm (p.1 ^^^ y0) (fi (x0 ^^^ p.1))))) xs (by simpa using hl) hx.2 (by
        rw [List.map_map]
        exact hy.2) (fun x hxs p hp => by
          obtain ⟨q, hq, rfl⟩ := List.mem_map.1 hp
          exact hne x (List.mem_cons_of_mem _ hxs) q (List.mem_cons_of_mem _ hq)) (fun x hxs => by
          have hxx : x ≠ x0 := fun e => hx.1 (e ▸ hxs)
          have h1 := csum_step x x0 y0 hxx ((y0, v0) :: ys) (fun p hp => ⟨hne x (List.mem_cons_of_mem _ hxs) p hp, hne x0 List.mem_cons_self p hp⟩)
          rw [hz x (List.mem_cons_of_mem _ hxs), hz x0 List.mem_cons_self, fm_zero, fm_zero, UInt8.xor_self] at h1
          rcases fm_eq_zero h1.symm with h2 | h2
          · exact absurd (xor_eq_zero h2) hxx
          · rw [List.map_cons, csum] at h2
            simpa [UInt8.xor_self, zero_fm, fm_zero] using h2)
      intro p hp
      have h3 := ih _ (List.mem_map.2 ⟨p, hp, rfl⟩)
      rcases fm_eq_zero h3 with h4 | h4
      · exact h4
      · exfalso
        rcases fm_eq_zero h4 with h5 | h5
        · exact hy.1 (List.mem_map.2 ⟨p, hp, xor_eq_zero h5⟩)
        · exact fi_ne (fun e => hne x0 List.mem_cons_self p (List.mem_cons_of_mem _ hp) (xor_eq_zero e)) h5
    intro p hp
    rcases List.mem_cons.1 hp with rfl | hp
    · have h1 := hz x0 List.mem_cons_self
      rw [csum, csum_zero x0 ys hrest, UInt8.xor_zero] at h1
      rcases fm_eq_zero h1 with h | h
      · exact h
      · exact absurd h (fi_ne fun e => hne x0 List.mem_cons_self (y0, v0) List.mem_cons_self (xor_eq_zero e))
    · exact hrest p hp
end Mat
end Go.Proofs.YtkfipfhmbhmamaaDoor

namespace Go.Proofs.YtkfipfhmbhmamaaDoor
open Go.RowKit

namespace Mat
def lsum : List Nat → (Nat → UInt8) → UInt8
  | [], _ => 0
  | j :: l, f => f j ^^^ lsum l f
theorem lsum_append (f : Nat → UInt8) : ∀ a b : List Nat, lsum (a ++ b) f = lsum a f ^^^ lsum b f
  | [], b => by simp [lsum]
  | j :: a, b => by rw [List.cons_append, lsum, lsum, lsum_append f a b, UInt8.xor_assoc]
theorem lsum_range (f : Nat → UInt8) : ∀ n, lsum (List.range n) f = sum n f
  | 0 => rfl
  | n + 1 => by rw [List.range_succ, lsum_append, lsum_range f n, sum]; simp [lsum]
theorem lsum_filter (f : Nat → UInt8) (q : Nat → Bool) : ∀ l : List Nat, (∀ j ∈ l, q j = false → f j = 0) → lsum (l.filter q) f = lsum l f
  | [], _ => rfl
  | j :: l, h => by
    have ih := lsum_filter f q l fun k hk => h k (List.mem_cons_of_mem _ hk)
    cases hq : q j with
    | true => rw [List.filter_cons_of_pos hq, lsum, lsum, ih]
    | false => rw [List.filter_cons_of_neg (by simp [hq]), lsum, ih, h j List.mem_cons_self hq, UInt8.zero_xor]
theorem csum_map (x : UInt8) (v : Nat → UInt8) : ∀ l : List Nat, csum x (l.map fun j => (UInt8.ofNat j, v j)) = lsum l fun j => fm (v j) (fi (x ^^^ UInt8.ofNat j))
  | [] => rfl
  | j :: l => by rw [List.map_cons, csum, lsum, csum_map x v l]
/-- The row of number p: of the identity of n rows, or of Cauchy's matrix below it. -/
def rowM (n p j : Nat) : UInt8 := if p < n then one p j else fi (UInt8.ofNat p ^^^ UInt8.ofNat j)
theorem ofNat_inj {a b : Nat} (ha : a < 256) (hb : b < 256) (h : UInt8.ofNat a = UInt8.ofNat b) : a = b := by
  have := congrArg UInt8.toNat h
  rwa [UInt8.toNat_ofNat', UInt8.toNat_ofNat', Nat.mod_eq_of_lt ha, Nat.mod_eq_of_lt hb] at this
theorem map_ofNat_nodup : ∀ l : List Nat, (∀ p ∈ l, p < 256) → l.Nodup → (l.map UInt8.ofNat).Nodup
  | [], _, _ => by simp
  | a :: l, h, hn => by
    rw [List.nodup_cons] at hn
    rw [List.map_cons, List.nodup_cons]
    refine ⟨fun hm => ?_, map_ofNat_nodup l (fun p hp => h p (List.mem_cons_of_mem _ hp)) hn.2⟩
    obtain ⟨b, hb, e⟩ := List.mem_map.1 hm
    exact hn.1 (ofNat_inj (h b (List.mem_cons_of_mem _ hb)) (h a List.mem_cons_self) e ▸ hb)
theorem picked (n : Nat) (hn : n ≤ 256) (P : List Nat) (hl : P.length = n) (hd : P.Nodup) (hp : ∀ p ∈ P, p < 256) : ∃ X, Inv n (fun i j => rowM n (P.getD i 0) j) X := by
  rcases inv_or_ker n (fun i j => rowM n (P.getD i 0) j) with h | ⟨v, ⟨i, hi, hv⟩, hz⟩
  · exact h
  exfalso
  have hrow : ∀ p ∈ P, sum n (fun k => fm (rowM n p k) (v k)) = 0 := fun p hpm => by
    obtain ⟨i, hi, rfl⟩ := List.getElem_of_mem hpm
    rw [← hz i (by omega)]
    refine sum_congr fun k _ => ?_
    show fm (rowM n P[i] k) (v k) = fm (rowM n (P.getD i 0) k) (v k)
    rw [List.getD_eq_getElem?_getD, List.getElem?_eq_getElem hi]
    rfl
  have hS : ∀ j, j < n → j ∈ P → v j = 0 := fun j hj hjP => by
    rw [← hrow j hjP, sum_one hj (fun k _ hk => by rw [rowM, if_pos hj, one, if_neg (fun e => hk e.symm), zero_fm]), rowM, if_pos hj, one, if_pos rfl, one_fm]
  have h1 : (List.range n).length = ((List.range n).filter fun j => decide (j ∈ P)).length + ((List.range n).filter fun j => !decide (j ∈ P)).length := by
    rw [← List.countP_eq_length_filter, ← List.countP_eq_length_filter, List.length_eq_countP_add_countP (p := fun j => decide (j ∈ P))]
    simp
  have h2 : P.length = (P.filter fun p => decide (p < n)).length + (P.filter fun p => !decide (p < n)).length := by
    rw [← List.countP_eq_length_filter, ← List.countP_eq_length_filter, List.length_eq_countP_add_countP (p := fun p => decide (p < n))]
    simp
    exact List.countP_congr fun a _ => by simp
  have h3 : ((List.range n).filter fun j => decide (j ∈ P)).length = (P.filter fun p => decide (p < n)).length := by
    refine ((List.perm_ext_iff_of_nodup (List.nodup_range.filter _) (hd.filter _)).2 fun a => ?_).length_eq
    simp only [List.mem_filter, List.mem_range, decide_eq_true_eq]
    exact ⟨fun h => ⟨h.2, h.1⟩, fun h => ⟨h.2, h.1⟩⟩
  have key := cauchy (((List.range n).filter fun j => !decide (j ∈ P)).map fun j => (UInt8.ofNat j, v j)) ((P.filter fun p => !decide (p < n)).map UInt8.ofNat)
    (by rw [List.length_map, List.length_map]; rw [List.length_range] at h1; omega)
    (map_ofNat_nodup _ (fun p h => hp p (List.mem_filter.1 h).1) (hd.filter _))
    (by
      rw [List.map_map]
      exact map_ofNat_nodup _ (fun p h => by have := List.mem_range.1 (List.mem_filter.1 h).1; omega) (List.nodup_range.filter _))
    (fun x hx q hq => by
      obtain ⟨p, hpm, rfl⟩ := List.mem_map.1 hx
      obtain ⟨j, hj, rfl⟩ := List.mem_map.1 hq
      have a1 := (List.mem_filter.1 hpm).2
      have a2 := List.mem_range.1 (List.mem_filter.1 hj).1
      simp only [Bool.not_eq_true', decide_eq_false_iff_not] at a1
      intro e
      have := ofNat_inj (hp p (List.mem_filter.1 hpm).1) (by omega) e
      omega)
    (fun x hx => by
      obtain ⟨p, hpm, rfl⟩ := List.mem_map.1 hx
      have a1 := (List.mem_filter.1 hpm).2
      simp only [Bool.not_eq_true', decide_eq_false_iff_not] at a1
      rw [csum_map, lsum_filter _ _ _ (fun j hj hjq => by
        simp only [Bool.not_eq_false', decide_eq_true_eq] at hjq
        rw [hS j (List.mem_range.1 hj) hjq, zero_fm]), lsum_range, ← hrow p (List.mem_filter.1 hpm).1]
      refine sum_congr fun k _ => ?_
      rw [rowM, if_neg a1, fm_comm])
  by_cases hiP : i ∈ P
  · exact hv (hS i hi hiP)
  · exact hv (key (UInt8.ofNat i, v i) (List.mem_map.2 ⟨i, List.mem_filter.2 ⟨List.mem_range.2 hi, by simpa using hiP⟩, rfl⟩))
end Mat
end Go.Proofs.YtkfipfhmbhmamaaDoor

namespace Go.Proofs.YtkfipfhmbhmamaaDoor
open Go.RowKit

/-- A slice of numbers that came in. -/
def IntsAt (w : World) (B : Nat) (A : Option Addr) (n : Nat) (L : List Int) : Prop :=
  L.length = n ∧ (n = 0 ∨ ∃ b off, A = some ⟨b, off, none⟩ ∧ b < B ∧ ∀ i, i < n → w.cell? ⟨b, off + i, none⟩ = some (.int .i64 (L.getD i 0)))
theorem IntsAt.below {w w' : World} {B C : Nat} {A : Option Addr} {n : Nat} {L : List Int} (h : IntsAt w B A n L) (hb : Below C w w') (hC : B ≤ C) : IntsAt w' B A n L := by
  refine ⟨h.1, ?_⟩
  rcases h.2 with h0 | ⟨b, off, hA, hB, hc⟩
  · exact .inl h0
  · exact .inr ⟨b, off, hA, hB, fun i hi => by rw [hb.cell (p := ⟨b, off + i, none⟩) (Nat.lt_of_lt_of_le hB hC)]; exact hc i hi⟩
theorem IntsAt.later {w w' : World} {A : Option Addr} {n : Nat} {L : List Int} (h : IntsAt w w.heap.size A n L) (hE : Ext w w') : IntsAt w' w'.heap.size A n L := by
  refine ⟨h.1, ?_⟩
  rcases h.2 with h0 | ⟨b, off, hA, hB, hc⟩
  · exact .inl h0
  · exact .inr ⟨b, off, hA, Nat.lt_of_lt_of_le hB hE.le, fun i hi => by rw [hE.cell hB]; exact hc i hi⟩
theorem intsNew (w : World) (L : List Int) (cs : Array Value) (t : TypeId) (fr : Nat × Nat) (h : cs = (L.map (Value.int .i64)).toArray) (n : Nat) (hn : L.length = n) :
    IntsAt (w.alloc (.cells cs t fr)) (w.alloc (.cells cs t fr)).heap.size (some ⟨w.heap.size, 0, none⟩) n L := by
  subst h
  subst hn
  refine ⟨rfl, .inr ⟨w.heap.size, 0, rfl, by simp, fun i hi => ?_⟩⟩
  rw [Nat.zero_add, World.cell?_alloc_mark]
  simp [hi]
end Go.Proofs.YtkfipfhmbhmamaaDoor

namespace Go.Proofs.YtkfipfhmbhmamaaDoor
open Go.RowKit

/-- v is nil, or lies in a block of the call's own, and reads as these numbers. -/
def OwnI (w : World) (base : Nat) (v : Value) (L : List Int) : Prop := w.ownsRow base 3 1 v L.length (L.map (Value.int .i64))
theorem int_info : (Tryd.prog.info? 3).map (fun i => (i.zero, i.size, i.bytes)) = some (some (.int .i64 0), 1, 8) := by kernel_rfl
theorem OwnI.nil (w : World) (base : Nat) : OwnI w base (.slice none 0 0) [] := World.ownsRow_nil w base _ _
theorem OwnI.ext {w w' : World} {base : Nat} {v : Value} {L : List Int} (h : OwnI w base v L) (hE : Ext w w') : OwnI w' base v L :=
  World.ownsRow.kept h (hE.grown none) (by cases hv : v.ownBlock <;> simp)
theorem OwnI.lt {w : World} {base : Nat} {v : Value} {L : List Int} (h : OwnI w base v L) : ∀ k, v.ownBlock = some k → base ≤ k ∧ k < w.heap.size := World.ownsRow.lt h
theorem OwnI.form {w : World} {base : Nat} {v : Value} {L : List Int} (h : OwnI w base v L) : ∃ A c, v = .slice A L.length c ∧ L.length ≤ c ∧ IntsAt w w.heap.size A L.length L := by
  have hl := h.lt
  rcases h.2 with ⟨rfl, h0⟩ | ⟨g, cap, cur, rfl, hb, hg, hn, hc, hs, ht⟩
  · exact ⟨none, 0, by rw [h0], by omega, rfl, .inl h0⟩
  · refine ⟨_, cap, rfl, hn, rfl, .inr ⟨g, 0, rfl, (hl g rfl).2, fun i hi => ?_⟩⟩
    have hk := World.ownsRow.cellAt h i (by omega)
    rw [Nat.zero_add, hk]
    simp [hi]
section
variable {o : Oper} {a : Act} {Q : Exit → Act → World → Prop} {w : World} {base : Nat} {v : Value} {L : List Int}
/-- append of one number, which lies in a block of its own. -/
theorem wpList_appIB {ops : Array Oper} {rest : List Oper} (hgd : o.guard = none) (s x : Operand) (ho : o.op = .call { callee := .builtin .append, args := #[s, x], argTypes := #[32, 32] }) (hs : a.eval s = v) (p : Int)
    (hown : OwnI (w.alloc (.cells #[.int .i64 p] 3)) base v L) {c : Nat} (hx : a.eval x = .slice (some ⟨w.heap.size, 0, none⟩) 1 c) (hlen : L.length ≤ 1000000) (hbase : base ≤ w.heap.size)
    (h : ∀ v' w', OwnI w' base v' (L ++ [p]) → (w.alloc (.cells #[.int .i64 p] 3)).grownBy w' v.ownBlock → wpList Tryd.prog ops Q rest (a.put o.dst v') w') :
    wpList Tryd.prog ops Q (o :: rest) a (w.alloc (.cells #[.int .i64 p] 3)) := by
  obtain ⟨i, hi, hz, hsz, hby⟩ := info_parts int_info
  refine wpList_append_own_at _ hgd s x 32 ho base 3 i _ 1 8 Tryd.underlying32 hi hz hsz hby rfl (by omega) v L.length (L.map (Value.int .i64)) hs hown ⟨w.heap.size, 0, none⟩ 1 c [.int .i64 p] hx rfl (by
    intro j u hu
    match j, hu with
    | 0, hu =>
      have : (⟨w.heap.size, 0, none⟩ : Addr).add 0 = ⟨w.heap.size, 0, none⟩ := rfl
      rw [this, cellNew]
      simpa using hu
    | j + 1, hu => simp at hu) (by
    intro u hu
    simp at hu
    subst hu
    rfl) (by unfold maxLen; omega) (by omega) (by simp; omega) ?_
  intro v' w' h2 h3 _ h5
  refine h v' w' ?_ h3
  unfold OwnI
  rw [List.length_append, List.map_append]
  exact h2
theorem wpList_appI {ops : Array Oper} {rest : List Oper} (hgd : o.guard = none) (s x : Operand) (ho : o.op = .call { callee := .builtin .append, args := #[s, x], argTypes := #[32, 32] }) (hs : a.eval s = v) (p : Int)
    (hown : OwnI (w.alloc (.cells #[.int .i64 p] 3)) base v L) {c : Nat} (hx : a.eval x = .slice (some ⟨w.heap.size, 0, none⟩) 1 c) (hlen : L.length ≤ 1000) (hbase : base ≤ w.heap.size)
    (h : ∀ v' w', OwnI w' base v' (L ++ [p]) → (w.alloc (.cells #[.int .i64 p] 3)).grownBy w' v.ownBlock → wpList Tryd.prog ops Q rest (a.put o.dst v') w') :
    wpList Tryd.prog ops Q (o :: rest) a (w.alloc (.cells #[.int .i64 p] 3)) :=
  wpList_appIB hgd s x ho hs p hown hx (by omega) hbase h
end
end Go.Proofs.YtkfipfhmbhmamaaDoor

namespace Go.Proofs.YtkfipfhmbhmamaaDoor
open Go.RowKit

theorem Crc.bit_odd {x : Nat} (h : ((x : Int) % 2 == 1) = true) (hx : x < 4294967296) : bits .xor .u32 ((x : Int) / 2) 3988292384 = ((Crc.bit x : Nat) : Int) := by
  have h1 : x % 2 = 1 := by
    have := beq_iff_eq.1 h
    omega
  have e : (x : Int) / 2 = ((x / 2 : Nat) : Int) := by omega
  have h2 := u32_xor_nat (x / 2) 3988292384 (by omega) (by omega)
  rw [e]
  simp only [Crc.bit, if_pos h1]
  exact h2
theorem Crc.bit_even {x : Nat} (h : ((x : Int) % 2 == 1) = false) : (x : Int) / 2 = ((Crc.bit x : Nat) : Int) := by
  have h1 : ¬ x % 2 = 1 := by
    have := beq_eq_false_iff_ne.1 h
    omega
  simp only [Crc.bit, if_neg h1]
  omega

set_option maxHeartbeats 400000 in
theorem refBit_any (x : Nat) (w : World) (h : x < 4294967296) :
    Calls Tryd.prog 76 #[.int .u32 x] w fun e w' => e = .returned (.int .u32 (Crc.bit x : Nat)) ∧ w = w' := by
  go_enter Tryd.func76, Tryd.ntmps76
  go_wp2
  · go_ret
    exact ⟨ret_u32 (Crc.bit_odd ‹_› h), rfl⟩
  · go_ret
    exact ⟨ret_u32 (Crc.bit_even ‹_›), rfl⟩

theorem Crc.and15 (x : Nat) (h : x < 4294967296) : bits .and .u32 (x : Int) 15 = ((x % 16 : Nat) : Int) := by
  rw [show (15 : Int) = ((15 : Nat) : Int) from rfl, u32_and_nat x 15 h (by omega), show 15 = 2 ^ 4 - 1 from rfl, Nat.and_two_pow_sub_one_eq_mod]

/-- What the calls take of the table: its sixteen cells. -/
def Tab (w : World) : Prop := ∀ i, i < 16 → w.cell? ⟨0, i, none⟩ = some (.int .u32 ((Crc.tab.getD i 0 : Nat) : Int))

theorem Tab.below {w w' : World} {B : Nat} (h : Tab w) (hb : Below B w w') (hB : 0 < B) : Tab w' := fun i hi => by
  rw [hb.cell (p := ⟨0, i, none⟩) hB]
  exact h i hi
theorem Crc.four_bits (x : Nat) (h : x < 4294967296) : bits .xor .u32 ((x : Int) / 16) ((Crc.tab[x % 16]?.getD 0 : Nat) : Int) = ((Crc.run 4 x : Nat) : Int) := by
  have e : (x : Int) / 16 = ((x / 16 : Nat) : Int) := by omega
  have hr : ∀ r, r < 16 → Crc.tab.getD r 0 < 4294967296 := by decide
  have f := Crc.four x
  rw [List.getD_eq_getElem?_getD] at f
  have b := hr (x % 16) (by omega)
  rw [List.getD_eq_getElem?_getD] at b
  rw [e, u32_xor_nat (x / 16) _ (by omega) b, f]

set_option maxHeartbeats 400000 in
theorem shiftByte_any (x : Nat) (w : World) (h : x < 4294967296) (ht : Tab w) :
    Calls Tryd.prog 84 #[.int .u32 x] w fun e w' => e = .returned (.int .u32 (Crc.run 8 x : Nat)) ∧ w = w' := by
  have h8 : Crc.run 8 x = Crc.run 4 (Crc.run 4 x) := Crc.run_add 4 4 x
  have hl := Crc.run_lt32 4 h
  rw [h8]
  clear h8
  have hx := Crc.four_bits x h
  have hm := Crc.and15 x h
  have h1 := ht (x % 16) (by omega)
  generalize Crc.run 4 x = y at *
  have hx2 := Crc.four_bits y hl
  have hm2 := Crc.and15 y hl
  have h2 := ht (y % 16) (by omega)
  generalize Crc.run 4 y = z at *
  go_enter Tryd.func84, Tryd.ntmps84
  go_wp2
  go_ret
  exact ⟨rfl, rfl⟩
end Go.Proofs.YtkfipfhmbhmamaaDoor

namespace Go.Proofs.YtkfipfhmbhmamaaDoor
open Go.RowKit

theorem Crc.xor_byte (r : Nat) (c : UInt8) (h : r < 4294967296) : bits .xor .u32 (r : Int) ((c.toNat : Int) % 4294967296) = ((r ^^^ c.toNat : Nat) : Int) := by
  have hc : (c.toNat : Int) % 4294967296 = (c.toNat : Int) := by have := c.toNat_lt; omega
  rw [hc]
  exact u32_xor_nat r c.toNat h (Nat.lt_trans c.toNat_lt (by decide))

theorem Crc.xor_lt (r : Nat) (c : UInt8) (h : r < 4294967296) : r ^^^ c.toNat < 4294967296 :=
  Nat.xor_lt_two_pow (n := 32) h (Nat.lt_trans c.toNat_lt (by decide))

theorem Crc.fold_take (r : Nat) (l : List UInt8) (k : Nat) (h : k < l.length) : Crc.fold r (l.take (k + 1)) = Crc.run 8 (Crc.fold r (l.take k) ^^^ (l.getD k 0).toNat) := by
  rw [List.take_succ_eq_append_getElem h, Crc.fold_append, Crc.fold_cons, Crc.fold_nil, Crc.step8, List.getD_eq_getElem?_getD, List.getElem?_eq_getElem h]
  rfl

set_option maxHeartbeats 400000 in
theorem takeBytes_any (r : Nat) (A : Option Addr) (n c : Nat) (l : List UInt8) (w : World) (h : r < 4294967296) (hn : n ≤ maxLen) (ht : Tab w) (hb : Bytes w w.heap.size A n l) :
    Calls Tryd.prog 79 #[.int .u32 r, .slice A n c] w fun e w' => e = .returned (.int .u32 (Crc.fold r l : Nat)) ∧ w = w' := by
  unfold maxLen at hn
  obtain ⟨hl, hb⟩ := hb
  rcases hb with rfl | ⟨b, off, rfl, hB, hc⟩
  · obtain rfl := List.eq_nil_of_length_eq_zero hl
    rw [Crc.fold_nil]
    go_enter Tryd.func79, Tryd.ntmps79
    go_wp2
    go_loop [0, 9] (fun x i => x = .int .u32 r ∧ i = .int .i64 0) (fun _ _ => 0)
    case atStart => exact ⟨rfl, rfl⟩
    case round =>
      obtain ⟨rfl, rfl⟩ := hrel
      go_wp2
      go_ret
      exact ⟨rfl, rfl⟩
  · go_enter Tryd.func79, Tryd.ntmps79
    go_wp2
    go_loop [0, 9] (fun x i => ∃ k : Nat, k ≤ n ∧ i = .int .i64 k ∧ x = .int .u32 (Crc.fold r (l.take k) : Nat)) (fun _ i => n - (intOf i).toNat)
    case atStart => exact ⟨0, by omega, rfl, by simp [Crc.fold_nil]⟩
    case round =>
      obtain ⟨k, hk, rfl, rfl⟩ := hrel
      by_cases hlt : k < n
      · have HS := hide (Crc.fold_take r l k (by omega))
        have hfl := Crc.fold_lt (l.take k) r h
        have hcell := hc k hlt
        clear hc
        generalize Crc.fold r (l.take k) = y at *
        have hx := Crc.xor_byte y (l.getD k 0) hfl
        have hxl := Crc.xor_lt y (l.getD k 0) hfl
        generalize l.getD k 0 = z at *
        go_wp2_with (go_at_call 84; refine (shiftByte_any _ _ hxl ht).mono ?_; rintro e w' ⟨rfl, rfl⟩)
        go_round
        case rel => exact ⟨k + 1, by omega, by go_num, by rw [HS.out]⟩
        case measure => simp [intOf]; omega
      · obtain rfl : k = n := by omega
        go_wp2
        go_ret
        exact ⟨ret_u32 (by rw [List.take_of_length_le (by omega)]), rfl⟩
end Go.Proofs.YtkfipfhmbhmamaaDoor

namespace Go.Proofs.YtkfipfhmbhmamaaDoor
open Go.RowKit

theorem Crc.not_eq (x : Nat) (h : x < 4294967296) : (4294967295 : Int) - (x : Int) = ((4294967295 - x : Nat) : Int) := by omega

set_option maxHeartbeats 400000 in
theorem refMore_any (s : Nat) (A : Option Addr) (n c : Nat) (l : List UInt8) (w : World) (h : s < 4294967296) (hn : n ≤ maxLen) (hb : Bytes w w.heap.size A n l) :
    Calls Tryd.prog 60 #[.int .u32 s, .slice A n c] w fun e w' => e = .returned (.int .u32 ((4294967295 - Crc.fold (4294967295 - s) l : Nat) : Int)) ∧ w = w' := by
  unfold maxLen at hn
  obtain ⟨hl, hb⟩ := hb
  have hs := Crc.not_eq s h
  have hs' : 4294967295 - s < 4294967296 := by omega
  generalize 4294967295 - s = r at *
  rcases hb with rfl | ⟨b, off, rfl, hB, hc⟩
  · obtain rfl := List.eq_nil_of_length_eq_zero hl
    rw [Crc.fold_nil]
    have hr := Crc.not_eq r hs'
    generalize 4294967295 - r = q at *
    go_enter Tryd.func60, Tryd.ntmps60
    go_wp2
    go_loop [5, 6, 7] (fun x i _ => x = .int .u32 r ∧ i = .int .i64 0) (fun _ _ _ => 0)
    case atStart => exact ⟨rfl, rfl⟩
    case round =>
      obtain ⟨rfl, rfl⟩ := hrel
      go_wp2
      go_ret
      exact ⟨rfl, rfl⟩
  · go_enter Tryd.func60, Tryd.ntmps60
    go_wp2
    go_loop [5, 6, 7] (fun x i _ => ∃ k : Nat, k ≤ n ∧ i = .int .i64 k ∧ x = .int .u32 (Crc.fold r (l.take k) : Nat)) (fun _ i _ => n - (intOf i).toNat)
    case atStart => exact ⟨0, by omega, rfl, by simp [Crc.fold_nil]⟩
    case round =>
      obtain ⟨k, hk, rfl, rfl⟩ := hrel
      by_cases hlt : k < n
      · have HS := hide (Crc.fold_take r l k (by omega))
        have hfl := Crc.fold_lt (l.take k) r hs'
        have hcell := hc k hlt
        clear hc
        generalize Crc.fold r (l.take k) = y at *
        have hx := Crc.xor_byte y (l.getD k 0) hfl
        have hxl := Crc.xor_lt y (l.getD k 0) hfl
        generalize l.getD k 0 = z at *
        go_wp2
        go_loop [5, 7] (fun x j => ∃ m : Nat, m ≤ 8 ∧ j = .int .i64 m ∧ x = .int .u32 (Crc.run m (y ^^^ z.toNat) : Nat)) (fun _ j => 8 - (intOf j).toNat)
        case atStart => exact ⟨0, by omega, rfl, rfl⟩
        case round =>
          obtain ⟨m, hm, rfl, rfl⟩ := hrel
          by_cases hm8 : m < 8
          · have hrl := Crc.run_lt32 m hxl
            have HR := hide (Crc.run_add m 1 (y ^^^ z.toNat))
            generalize Crc.run m (y ^^^ z.toNat) = q at *
            go_wp2_with (go_at_call 76; refine (refBit_any _ _ hrl).mono ?_; rintro e w' ⟨rfl, rfl⟩)
            go_round
            case rel => exact ⟨m + 1, by omega, by go_num, by rw [HR.out]; rfl⟩
            case measure => simp [intOf]; omega
          · obtain rfl : m = 8 := by omega
            go_wp2
            go_round
            case rel => exact ⟨k + 1, by omega, by go_num, by rw [HS.out]⟩
            case measure => simp [intOf]; omega
      · obtain rfl : k = n := by omega
        rw [List.take_of_length_le (by omega : l.length ≤ k)]
        have hf := Crc.fold_lt l r hs'
        have hr := Crc.not_eq _ hf
        go_wp2
        go_ret
        exact ⟨rfl, rfl⟩

set_option maxHeartbeats 400000 in
theorem refSum_any (A : Option Addr) (n c : Nat) (l : List UInt8) (w : World) (hn : n ≤ maxLen) (hb : Bytes w w.heap.size A n l) :
    Calls Tryd.prog 37 #[.slice A n c] w fun e w' => e = .returned (.int .u32 ((4294967295 - Crc.fold 4294967295 l : Nat) : Int)) ∧ w = w' := by
  go_enter Tryd.func37, Tryd.ntmps37
  go_wp2_with (go_at_call 60; refine (refMore_any 0 _ _ _ _ _ (by decide) hn hb).mono ?_; rintro e w' ⟨rfl, rfl⟩)
  go_ret
  exact ⟨rfl, rfl⟩
end Go.Proofs.YtkfipfhmbhmamaaDoor

namespace Go.Proofs.YtkfipfhmbhmamaaDoor
open Go.RowKit

/-- A slice of slices that reads as these rows of bytes. -/
def Parts (w : World) (B : Nat) (A : Option Addr) (n : Nat) (ls : List (List UInt8)) : Prop :=
  ls.length = n ∧ (n = 0 ∨ ∃ b off, A = some ⟨b, off, none⟩ ∧ b < B ∧ ∀ i, i < n → ∃ A' n' c', w.cell? ⟨b, off + i, none⟩ = some (.slice A' n' c') ∧ n' ≤ maxLen ∧ Bytes w B A' n' (ls.getD i []))

end Go.Proofs.YtkfipfhmbhmamaaDoor

namespace Go.Proofs.YtkfipfhmbhmamaaDoor
open Go.RowKit

/-- What rows of bytes, one behind the other, make of a register. -/
def Crc.folds (x : Nat) (ls : List (List UInt8)) : Nat := Crc.fold x ls.flatten
theorem Crc.folds_take (r : Nat) (ls : List (List UInt8)) (k : Nat) (h : k < ls.length) : Crc.folds r (ls.take (k + 1)) = Crc.fold (Crc.folds r (ls.take k)) (ls.getD k []) := by
  unfold Crc.folds
  rw [List.take_succ_eq_append_getElem h, List.flatten_append, Crc.fold_append, List.getD_eq_getElem?_getD, List.getElem?_eq_getElem h]
  simp

theorem Crc.not_bits (s : Nat) (h : s < 4294967296) : bits .xor .u32 IntKind.u32.max (s : Int) = ((4294967295 - s : Nat) : Int) := by
  have hm : IntKind.u32.max = ((4294967295 : Nat) : Int) := by decide
  have e : (4294967295 : Nat) ^^^ s = 4294967295 - s := by
    have h1 := congrArg BitVec.toNat (BitVec.allOnes_xor (x := BitVec.ofNat 32 s))
    rw [BitVec.toNat_xor, BitVec.toNat_not, BitVec.toNat_ofNat, BitVec.toNat_allOnes, Nat.mod_eq_of_lt (by omega : s < 2 ^ 32)] at h1
    exact h1
  rw [hm, u32_xor_nat _ _ (by decide) h, e]

set_option maxHeartbeats 400000 in
theorem more_any (s : Nat) (A : Option Addr) (n c : Nat) (ls : List (List UInt8)) (w : World) (h : s < 4294967296) (hn : n ≤ maxLen) (ht : Tab w) (hb : Parts w w.heap.size A n ls) :
    Calls Tryd.prog 67 #[.int .u32 s, .slice A n c] w fun e w' => e = .returned (.int .u32 ((4294967295 - Crc.folds (4294967295 - s) ls : Nat) : Int)) ∧ w = w' := by
  unfold maxLen at hn
  obtain ⟨hl, hb⟩ := hb
  have hs := Crc.not_bits s h
  have hs' : 4294967295 - s < 4294967296 := by omega
  generalize 4294967295 - s = r at *
  rcases hb with rfl | ⟨b, off, rfl, hB, hc⟩
  · obtain rfl := List.eq_nil_of_length_eq_zero hl
    have hr := Crc.not_bits r hs'
    have HF := hide (show Crc.folds r [] = r from rfl)
    go_enter Tryd.func67, Tryd.ntmps67
    go_wp2
    go_loop [5, 12] (fun x i => x = .int .u32 r ∧ i = .int .i64 0) (fun _ _ => 0)
    case atStart => exact ⟨rfl, rfl⟩
    case round =>
      obtain ⟨rfl, rfl⟩ := hrel
      go_wp2
      go_ret
      exact ⟨ret_u32 (by rw [HF.out]), rfl⟩
  · go_enter Tryd.func67, Tryd.ntmps67
    go_wp2
    go_loop [5, 12] (fun x i => ∃ k : Nat, k ≤ n ∧ i = .int .i64 k ∧ x = .int .u32 (Crc.folds r (ls.take k) : Nat)) (fun _ i => n - (intOf i).toNat)
    case atStart => exact ⟨0, by omega, rfl, by simp [Crc.folds, Crc.fold_nil]⟩
    case round =>
      obtain ⟨k, hk, rfl, rfl⟩ := hrel
      have hfl := Crc.fold_lt (ls.take k).flatten r hs'
      change Crc.folds r (ls.take k) < _ at hfl
      by_cases hlt : k < n
      · have HS := hide (Crc.folds_take r ls k (by omega))
        obtain ⟨A', n', c', hcell, hn', hby⟩ := hc k hlt
        clear hc
        generalize Crc.folds r (ls.take k) = y at *
        generalize ls.getD k [] = z at *
        go_wp2_with (go_at_call 79; refine (takeBytes_any _ _ _ _ _ _ hfl hn' ht hby).mono ?_; rintro e w' ⟨rfl, rfl⟩)
        go_round
        case rel => exact ⟨k + 1, by omega, by go_num, by rw [HS.out]⟩
        case measure => simp [intOf]; omega
      · obtain rfl : k = n := by omega
        rw [List.take_of_length_le (by omega : ls.length ≤ k)] at *
        have hr := Crc.not_bits _ hfl
        go_wp2
        go_ret
        exact ⟨rfl, rfl⟩

theorem Parts.one {w : World} {A : Option Addr} {n c : Nat} {l : List UInt8} (t : TypeId) (hn : n ≤ maxLen) (hb : Bytes w w.heap.size A n l) :
    Parts (w.alloc (.cells #[.slice A n c] t)) (w.alloc (.cells #[.slice A n c] t)).heap.size (some ⟨w.heap.size, 0, none⟩) 1 [l] := by
  refine ⟨rfl, .inr ⟨w.heap.size, 0, rfl, by simp, fun i hi => ?_⟩⟩
  obtain rfl : i = 0 := by omega
  exact ⟨A, n, c, cellNew w _ t _ 0, hn, (hb.below (belowNew w _) (Nat.le_refl _)).mono (by simp)⟩

/-- The document's sum. -/
def Crc.sum (l : List UInt8) : Nat := 4294967295 - Crc.fold 4294967295 l

set_option maxHeartbeats 400000 in
theorem sum_any (A : Option Addr) (n c : Nat) (l : List UInt8) (w : World) (hn : n ≤ maxLen) (h0 : 0 < w.heap.size) (ht : Tab w) (hb : Bytes w w.heap.size A n l) :
    Calls Tryd.prog 46 #[.slice A n c] w fun e w' => e = .returned (.int .u32 (Crc.sum l : Nat)) ∧ Below w.heap.size w w' := by
  have hp := Parts.one (c := c) 27 hn hb
  have ht' := ht.below (belowNew w (.cells #[.slice A n c] 27)) h0
  have HS := hide (show Crc.sum l = 4294967295 - Crc.folds 4294967295 [l] by simp [Crc.sum, Crc.folds])
  have hbl := belowNew w (.cells #[.slice A n c] 27)
  go_enter Tryd.func46, Tryd.ntmps46
  go_wp2_with (go_at_call 67; refine (more_any 0 _ _ _ _ _ (by decide) (by decide) ht' hp).mono ?_; rintro e w' ⟨rfl, rfl⟩)
  go_ret
  exact ⟨ret_u32 (by rw [HS.out]), hbl⟩
end Go.Proofs.YtkfipfhmbhmamaaDoor

namespace Go.Proofs.YtkfipfhmbhmamaaDoor
open Go.RowKit

set_option maxHeartbeats 1000000 in
theorem same_any (A1 A2 : Option Addr) (n m c d : Nat) (a b : List UInt8) (w : World) (ha : Bytes w w.heap.size A1 n a) (hb : Bytes w w.heap.size A2 m b) :
    Calls Tryd.prog 14 #[.slice A1 n c, .slice A2 m d] w fun e w' => e = .returned (.bool (sameB a b)) ∧ Ext w w' := by
  have h1 := conv_bytes c ha (fun h => by subst h; rcases ha.2 with h | ⟨_, _, h, _⟩; exact h; cases h)
  have h2 := conv_bytes d hb (fun h => by subst h; rcases hb.2 with h | ⟨_, _, h, _⟩; exact h; cases h)
  clear ha hb
  go_enter Tryd.func14, Tryd.ntmps14
  go_wp2
  go_ret
  exact ⟨ret_bool (same_beq a b).symm, Ext.refl _⟩
end Go.Proofs.YtkfipfhmbhmamaaDoor

namespace Go.Proofs.YtkfipfhmbhmamaaDoor
open Go.RowKit

namespace Num
/-- A number's bytes; f: how many there may be. -/
def encF : Nat → Nat → List UInt8
  | 0, _ => []
  | f + 1, x => if x < 128 then [UInt8.ofNat x] else UInt8.ofNat (128 + x % 128) :: encF f (x / 128)
def enc (x : Nat) : List UInt8 := encF 10 x
theorem encF_small {f x : Nat} (h : x < 128) : encF (f + 1) x = [UInt8.ofNat x] := by rw [encF, if_pos h]
theorem encF_big {f x : Nat} (h : ¬ x < 128) : encF (f + 1) x = UInt8.ofNat (128 + x % 128) :: encF f (x / 128) := by rw [encF, if_neg h]
theorem encF_len : ∀ (f x : Nat), (encF f x).length ≤ f
  | 0, _ => by simp [encF]
  | f + 1, x => by
    rw [encF]
    split
    · simp
    · have := encF_len f (x / 128)
      simp; omega
theorem enc_len (x : Nat) : (enc x).length ≤ 10 := encF_len 10 x
theorem enc_pos (x : Nat) : 0 < (enc x).length := by
  unfold enc
  rw [encF]
  split <;> simp

/-- What stands in the bytes from a place on: the number, the place behind it, an error. i: how many of its bytes are taken, x: what they make. -/
def scanF (b : List UInt8) (q : Nat) : Nat → Nat → Nat → Nat × Nat × Int
  | 0, _, _ => (0, q, 2)
  | f + 1, i, x =>
    if b.length ≤ q + i then (0, q, 1)
    else if (i = 9 ∧ (b.getD (q + i) 0).toNat ≠ 1) ∨ (0 < i ∧ (b.getD (q + i) 0).toNat = 0) then (0, q, 2)
    else if (b.getD (q + i) 0).toNat < 128 then (x + (b.getD (q + i) 0).toNat % 128 * 128 ^ i, q + i + 1, 0)
    else scanF b q f (i + 1) (x + (b.getD (q + i) 0).toNat % 128 * 128 ^ i)
def scan (b : List UInt8) (q : Nat) : Nat × Nat × Int := scanF b q 10 0 0
/-- What the first i bytes make stays below 128 ^ i. -/
theorem part_lt {x c i : Nat} (h : x < 128 ^ i) : x + c % 128 * 128 ^ i < 128 ^ (i + 1) := by
  have h1 : c % 128 < 128 := Nat.mod_lt _ (by decide)
  have h2 : (c % 128 + 1) * 128 ^ i ≤ 128 * 128 ^ i := Nat.mul_le_mul_right _ h1
  rw [Nat.add_mul, Nat.one_mul] at h2
  rw [Nat.pow_succ, Nat.mul_comm (128 ^ i)]
  omega
/-- The place does not go beyond the bytes; with an error it stands. -/
theorem scanF_facts (b : List UInt8) (q : Nat) : ∀ f i x, x < 128 ^ i → i + f = 10 → (scanF b q f i x).1 < 2 ^ 64 ∧ ((scanF b q f i x).2.2 = 0 → q < (scanF b q f i x).2.1 ∧ (scanF b q f i x).2.1 ≤ b.length) ∧ ((scanF b q f i x).2.2 ≠ 0 → (scanF b q f i x).2.1 = q ∧ (scanF b q f i x).1 = 0) ∧ ((scanF b q f i x).2.2 = 0 ∨ (scanF b q f i x).2.2 = 1 ∨ (scanF b q f i x).2.2 = 2)
  | 0, i, x, _, _ => by simp [scanF]
  | f + 1, i, x, hx, hf => by
    rw [scanF]
    by_cases h1 : b.length ≤ q + i
    · rw [if_pos h1]; simp
    · rw [if_neg h1]
      by_cases h2 : (i = 9 ∧ (b.getD (q + i) 0).toNat ≠ 1) ∨ (0 < i ∧ (b.getD (q + i) 0).toNat = 0)
      · rw [if_pos h2]; simp
      · rw [if_neg h2]
        by_cases h3 : (b.getD (q + i) 0).toNat < 128
        · rw [if_pos h3]
          refine ⟨?_, fun _ => ⟨by simp; omega, by simp; omega⟩, fun h => absurd rfl h, .inl rfl⟩
          show x + (b.getD (q + i) 0).toNat % 128 * 128 ^ i < 2 ^ 64
          by_cases h9 : i = 9
          · subst h9
            have hc : (b.getD (q + 9) 0).toNat = 1 := by
              rcases Nat.lt_trichotomy (b.getD (q + 9) 0).toNat 1 with h | h | h
              · exact absurd (.inr ⟨by omega, by omega⟩) h2
              · exact h
              · exact absurd (.inl ⟨rfl, by omega⟩) h2
            rw [hc]
            have : (128 : Nat) ^ 9 = 2 ^ 63 := by decide
            omega
          · have h4 := part_lt (c := (b.getD (q + i) 0).toNat) hx
            have h5 : (128 : Nat) ^ (i + 1) ≤ 128 ^ 9 := Nat.pow_le_pow_right (by decide) (by omega)
            have : (128 : Nat) ^ 9 = 2 ^ 63 := by decide
            omega
        · rw [if_neg h3]
          exact scanF_facts b q f (i + 1) _ (part_lt hx) (by omega)
theorem scan_facts (b : List UInt8) (q : Nat) : (scan b q).1 < 2 ^ 64 ∧ ((scan b q).2.2 = 0 → q < (scan b q).2.1 ∧ (scan b q).2.1 ≤ b.length) ∧ ((scan b q).2.2 ≠ 0 → (scan b q).2.1 = q ∧ (scan b q).1 = 0) ∧ ((scan b q).2.2 = 0 ∨ (scan b q).2.2 = 1 ∨ (scan b q).2.2 = 2) :=
  scanF_facts b q 10 0 0 (by decide) rfl

theorem ofNat_low (y : Nat) (h : y < 256) : (UInt8.ofNat y).toNat = y := by rw [UInt8.toNat_ofNat']; exact Nat.mod_eq_of_lt h
/-- What is written is read. -/
theorem scanF_enc (pre post : List UInt8) : ∀ (f i x y : Nat), i + f = 10 → y < 2 ^ 64 / 128 ^ i → (0 < i → 0 < y) → ∀ (done : List UInt8), done.length = i →
    scanF (pre ++ done ++ encF f y ++ post) pre.length f i x = (x + y * 128 ^ i, pre.length + i + (encF f y).length, 0)
  | 0, i, x, y, hf, hy, hp, done, hd => by
    obtain rfl : i = 10 := by omega
    have : y = 0 := by
      have : (2 : Nat) ^ 64 / 128 ^ 10 = 0 := by decide
      omega
    exact absurd (hp (by omega)) (by omega)
  | f + 1, i, x, y, hf, hy, hp, done, hd => by
    have hlen : pre.length + i = (pre ++ done).length := by rw [List.length_append, hd]
    rw [scanF]
    by_cases hs : y < 128
    · rw [encF_small hs]
      have hg : (pre ++ done ++ [UInt8.ofNat y] ++ post).getD (pre.length + i) 0 = UInt8.ofNat y := by
        rw [List.getD_eq_getElem?_getD, hlen, List.append_assoc _ [UInt8.ofNat y], List.getElem?_append_right (Nat.le_refl _), Nat.sub_self]; rfl
      rw [if_neg (by simp; omega), hg, ofNat_low y (by omega), if_neg, if_pos hs]
      · simp [Nat.mod_eq_of_lt hs]
      · rintro (⟨h9, h1⟩ | ⟨h0, h1⟩)
        · subst h9
          have : (2 : Nat) ^ 64 / 128 ^ 9 = 2 := by decide
          have := hp (by omega)
          omega
        · have := hp h0
          omega
    · have h9 : i ≠ 9 := by
        rintro rfl
        have : (2 : Nat) ^ 64 / 128 ^ 9 = 2 := by decide
        omega
      rw [encF_big hs]
      have hg : (pre ++ done ++ (UInt8.ofNat (128 + y % 128) :: encF f (y / 128)) ++ post).getD (pre.length + i) 0 = UInt8.ofNat (128 + y % 128) := by
        rw [List.getD_eq_getElem?_getD, hlen, List.append_assoc _ (UInt8.ofNat (128 + y % 128) :: encF f (y / 128)), List.getElem?_append_right (Nat.le_refl _), Nat.sub_self]; rfl
      have hmod : (128 + y % 128) % 128 = y % 128 := by omega
      rw [if_neg (by simp; omega), hg, ofNat_low _ (by omega), if_neg, if_neg (by omega), hmod]
      · have ih := scanF_enc pre post f (i + 1) (x + y % 128 * 128 ^ i) (y / 128) (by omega) (by
          rw [show (128 : Nat) ^ (i + 1) = 128 ^ i * 128 from rfl, ← Nat.div_div_eq_div_mul]
          have h0 : (2 ^ 64 / 128 ^ i) % 128 = 0 := by
            rcases (by omega : i = 0 ∨ i = 1 ∨ i = 2 ∨ i = 3 ∨ i = 4 ∨ i = 5 ∨ i = 6 ∨ i = 7 ∨ i = 8) with rfl | rfl | rfl | rfl | rfl | rfl | rfl | rfl | rfl <;> decide
          generalize 2 ^ 64 / 128 ^ i = N at *
          omega) (fun _ => by omega) (done ++ [UInt8.ofNat (128 + y % 128)]) (by simp [hd])
        have e : pre ++ (done ++ [UInt8.ofNat (128 + y % 128)]) ++ encF f (y / 128) ++ post = pre ++ done ++ (UInt8.ofNat (128 + y % 128) :: encF f (y / 128)) ++ post := by simp
        rw [e] at ih
        rw [ih]
        have hy2 : y % 128 + y / 128 * 128 = y := by omega
        have : x + y % 128 * 128 ^ i + y / 128 * 128 ^ (i + 1) = x + y * 128 ^ i := by
          rw [Nat.pow_succ, Nat.mul_comm (128 ^ i) 128, ← Nat.mul_assoc, Nat.add_assoc, ← Nat.add_mul, hy2]
        rw [this]
        simp
        omega
      · rintro (⟨h, _⟩ | ⟨_, h⟩)
        · exact h9 h
        · omega
theorem scan_enc (pre post : List UInt8) (x : Nat) (h : x < 2 ^ 64) : scan (pre ++ enc x ++ post) pre.length = (x, pre.length + (enc x).length, 0) := by
  have := scanF_enc pre post 10 0 0 x rfl (by simpa using h) (fun h => by omega) [] rfl
  simpa [enc, scan] using this
/-- What is read is just what is written. -/
theorem scanF_one (b : List UInt8) (q : Nat) : ∀ (f i x v p : Nat), scanF b q f i x = (v, p, 0) →
    ∃ y, v = x + y * 128 ^ i ∧ (b.drop (q + i)).take (p - (q + i)) = encF f y ∧ (0 < i → 0 < y) ∧ q + i < p ∧ p ≤ b.length
  | 0, i, x, v, p, h => by
    rw [scanF] at h
    simp only [Prod.mk.injEq] at h
    omega
  | f + 1, i, x, v, p, h => by
    rw [scanF] at h
    by_cases h1 : b.length ≤ q + i
    · rw [if_pos h1] at h
      simp only [Prod.mk.injEq] at h
      omega
    rw [if_neg h1] at h
    by_cases h2 : (i = 9 ∧ (b.getD (q + i) 0).toNat ≠ 1) ∨ (0 < i ∧ (b.getD (q + i) 0).toNat = 0)
    · rw [if_pos h2] at h
      simp only [Prod.mk.injEq] at h
      omega
    rw [if_neg h2] at h
    have hlt : q + i < b.length := by omega
    have hget : b.getD (q + i) 0 = b[q + i] := by rw [List.getD_eq_getElem?_getD, List.getElem?_eq_getElem hlt]; rfl
    rw [hget] at h h2
    have hdrop : b.drop (q + i) = b[q + i] :: b.drop (q + i + 1) := List.drop_eq_getElem_cons hlt
    have hof : UInt8.ofNat (b[q + i].toNat) = b[q + i] := UInt8.ofNat_toNat
    have hc := (b[q + i]).toNat_lt
    by_cases h3 : (b[q + i]).toNat < 128
    · rw [if_pos h3] at h
      simp only [Prod.mk.injEq] at h
      obtain ⟨hv, hp, _⟩ := h
      refine ⟨b[q + i].toNat, by rw [← hv, Nat.mod_eq_of_lt h3], ?_, fun h0 => ?_, by omega, by omega⟩
      · rw [hdrop, ← hp, show q + i + 1 - (q + i) = 1 by omega, encF_small h3, hof]
        rfl
      · rcases Nat.eq_zero_or_pos b[q + i].toNat with h | h
        · exact absurd (.inr ⟨h0, h⟩) h2
        · exact h
    · rw [if_neg h3] at h
      obtain ⟨y, hv, htake, hy, hqp, hpl⟩ := scanF_one b q f (i + 1) _ v p h
      have hy0 := hy (by omega)
      refine ⟨b[q + i].toNat % 128 + 128 * y, ?_, ?_, fun _ => by omega, by omega, hpl⟩
      · rw [hv, Nat.pow_succ, Nat.add_mul, Nat.mul_comm (128 ^ i) 128, ← Nat.mul_assoc, Nat.mul_comm 128 y, Nat.add_assoc]
      · have e1 : (b[q + i].toNat % 128 + 128 * y) % 128 = b[q + i].toNat % 128 := by omega
        have e2 : (b[q + i].toNat % 128 + 128 * y) / 128 = y := by omega
        have e3 : 128 + b[q + i].toNat % 128 = b[q + i].toNat := by omega
        rw [encF_big (by omega), e1, e2, e3, hof, hdrop, show p - (q + i) = (p - (q + (i + 1))) + 1 by omega, List.take_succ_cons]
        congr 1
theorem scan_one {b : List UInt8} {x : Nat} (h : scan b 0 = (x, b.length, 0)) : enc x = b := by
  obtain ⟨y, hv, ht, _⟩ := scanF_one b 0 10 0 0 x b.length h
  simp only [Nat.pow_zero, Nat.mul_one, Nat.zero_add] at hv ht
  rw [List.drop_zero, Nat.sub_zero, List.take_length] at ht
  rw [hv]
  exact ht.symm

/-! ### Fixed numbers -/
/-- The n lowest bytes of x, the lowest first. -/
def fix : Nat → Nat → List UInt8
  | 0, _ => []
  | n + 1, x => UInt8.ofNat (x % 256) :: fix n (x / 256)
theorem fix_len : ∀ n x, (fix n x).length = n
  | 0, _ => rfl
  | n + 1, x => by rw [fix, List.length_cons, fix_len]
/-- The number that bytes make, the lowest first. -/
def low : List UInt8 → Nat
  | [] => 0
  | c :: l => c.toNat + 256 * low l
theorem low_fix : ∀ n x, x < 256 ^ n → low (fix n x) = x
  | 0, x, h => by simp at h; simp [fix, low, h]
  | n + 1, x, h => by
    rw [fix, low, low_fix n (x / 256) (by rw [Nat.pow_succ] at h; omega), ofNat_low _ (by omega)]
    omega
theorem low_lt : ∀ l : List UInt8, low l < 256 ^ l.length
  | [] => by simp [low]
  | c :: l => by
    have h := low_lt l
    have hc := c.toNat_lt
    have : (low l + 1) * 256 ≤ 256 ^ l.length * 256 := Nat.mul_le_mul_right _ h
    rw [low, List.length_cons, Nat.pow_succ]
    omega
theorem low_drop (l : List UInt8) (k : Nat) (h : k < l.length) : low (l.drop k) = (l.getD k 0).toNat + 256 * low (l.drop (k + 1)) := by
  rw [List.drop_eq_getElem_cons h, low, List.getD_eq_getElem?_getD, List.getElem?_eq_getElem h]
  rfl
theorem fix_snoc : ∀ n x, fix (n + 1) x = fix n x ++ [UInt8.ofNat (x / 256 ^ n % 256)]
  | 0, x => by simp [fix]
  | n + 1, x => by
    rw [fix, fix_snoc n (x / 256), Nat.div_div_eq_div_mul, Nat.mul_comm 256, ← Nat.pow_succ]
    rfl

/-! ### Signed numbers -/
def zig (d : Nat) : Nat := if 2 ^ 63 ≤ d then 2 * (2 ^ 64 - 1 - d) + 1 else 2 * d
def zag (z : Nat) : Nat := if z % 2 = 1 then 2 ^ 64 - 1 - z / 2 else z / 2
theorem zag_zig {d : Nat} (h : d < 2 ^ 64) : zag (zig d) = d := by
  unfold zag zig
  split <;> split <;> omega
theorem zig_zag {z : Nat} (h : z < 2 ^ 64) : zig (zag z) = z := by
  unfold zag zig
  split <;> split <;> omega
theorem zig_lt {d : Nat} (h : d < 2 ^ 64) : zig d < 2 ^ 64 := by
  unfold zig
  split <;> omega
theorem zag_lt {z : Nat} (h : z < 2 ^ 64) : zag z < 2 ^ 64 := by
  unfold zag
  split <;> omega

/-! ### A cursor's calls: bytes, place, error; what they answer, the place and the error behind them -/
def numR (b : List UInt8) (q : Nat) (e : Int) : Nat × Nat × Int := if e = 0 then scan b q else (0, q, e)
def intR (b : List UInt8) (q : Nat) (e most : Int) : Nat × Nat × Int :=
  if (numR b q e).2.2 = 0 then (if most < ((numR b q e).1 : Int) then (0, q, 6) else numR b q e) else (0, (numR b q e).2.1, (numR b q e).2.2)
def takeR (b : List UInt8) (q : Nat) (e n : Int) : List UInt8 × Nat × Int :=
  if e = 0 then (if n < 0 then ([], q, 13) else if ((b.length - q : Nat) : Int) < n then ([], q, 1) else ((b.drop q).take n.toNat, q + n.toNat, 0)) else ([], q, e)
def byteR (b : List UInt8) (q : Nat) (e : Int) : Nat × Nat × Int := (((takeR b q e 1).1.getD 0 0).toNat, (takeR b q e 1).2)
def fixedR (b : List UInt8) (q : Nat) (e n : Int) : Nat × Nat × Int :=
  if e = 0 then (if n < 1 ∨ 8 < n then (0, q, 13) else (low (takeR b q e n).1, (takeR b q e n).2)) else (0, q, e)
def textR (b : List UInt8) (q : Nat) (e most : Int) : List UInt8 × Nat × Int :=
  if (intR b q e most).2.2 = 0 then (if b.length - (intR b q e most).2.1 < (intR b q e most).1 then ([], q, 1) else takeR b (intR b q e most).2.1 0 ((intR b q e most).1 : Int)) else ([], (intR b q e most).2)
def failR (e e' : Int) : Int := if e = 0 then e' else e
def endR (b : List UInt8) (q : Nat) (e : Int) : Int := if e = 0 ∧ 0 < b.length - q then 2 else e
end Num
end Go.Proofs.YtkfipfhmbhmamaaDoor

namespace Go.Proofs.YtkfipfhmbhmamaaDoor
open Go.RowKit
theorem wpList_appGd {ops : Array Oper} {rest : List Oper} {o : Oper} {a : Act} {Q : Exit → Act → World → Prop} {w : World} (hgd : Region.wanted o (yielded ops a.tmps) = true) (s x : Operand)
    (ho : o.op = .call { callee := .builtin .append, args := #[s, x], argTypes := #[27, 27] }) {base : Nat} {v : Value} {l : List UInt8} (hs : a.eval s = v) (hown : OwnB w base v l)
    {A : Option Addr} {m c : Nat} {k : List UInt8} (hx : a.eval x = .slice A m c) (hb : Bytes w w.heap.size A m k) (hlen : l.length + m ≤ 140737488355328) (hbase : base ≤ w.heap.size)
    (h : ∀ v' w', OwnB w' base v' (l ++ k) → w.grownBy w' v.ownBlock → wpList Tryd.prog ops Q rest (a.put o.dst v') w') : wpList Tryd.prog ops Q (o :: rest) a w :=
  BigFrame.wpList_want hgd fun _ hK => wp_app s x ho hs hown hx hb hlen hbase fun v' w' h2 h3 => hK _ _ (h v' w' h2 h3)
end Go.Proofs.YtkfipfhmbhmamaaDoor

