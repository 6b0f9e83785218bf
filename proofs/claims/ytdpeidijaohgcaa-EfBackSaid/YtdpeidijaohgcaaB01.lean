/- Small facts that all proofs of a seat use: later worlds, slices of bytes, what a cut of a slice is. Slices of bytes that a call has made itself, and what append makes of them. Bits of bytes, numbers of bits, runs of bits 0: plain mathematics. A block that is known whole. Worlds that differ in one block and one row at most; append and stores, told with where what they make lies. Contracts of the row of bits: widen, add, number, zerosFrom. The contract of the library's slices.Clone at bytes. Contracts of the writer: Put, Unary, Len, Bytes. Contracts of the row of bits: number and zerosFrom. Contracts of the library's LeadingZeros8 and of the row's zerosFrom. Contracts of the reader: NewReader, Left, Get, Skip, Peek, Unary, Pad. Contracts of the reader: Peek, Unary, Pad, NewReader. What arguments that came in read as: slices of bytes, and slices of those. What a slice of calls (Op) that came in reads as. What was put is got: plain mathematics; slices of calls of the call's own. Bits as bytes. -/
import Derived.Test.YtdpeidijaohgcaaRows
import Derived.WalkKit
import Derived.WalkSpells
import Derived.WalkLawsBesides
import Derived.Maps.AppendAt
import Derived.Deep.MidRow
import Derived.Laws.Rows
import Derived.Deep.RegionLaw
import Derived.Deep.RegionWith
import Derived.Deep.QuietTactic
import Derived.BigQuiet
import Derived.Lib.SliceRun
import Derived.Lib.BitFns
import Derived.Laws.Tables
import Derived.ProofKit
import Derived.OpenShut
import Derived.Deep.Slices
import Derived.Deep.Strs
namespace Go.Proofs.Ytdpeidijaohgcaa
open Go.RowKit

theorem hide {p : Prop} (h : p) : Hid p := h
theorem ret_bool {a b : Bool} (h : a = b) : Ending.returned (.bool a) = .returned (.bool b) := by rw [h]
theorem ret_u32 {a b : Int} (h : a = b) : Ending.returned (.int .u32 a) = .returned (.int .u32 b) := by rw [h]

/-- Everything that was there at w is there at W as it was. -/
def Ext (w W : World) : Prop := Below w.heap.size w W
theorem Ext.refl (w : World) : Ext w w := Below.refl _ _
theorem Ext.trans {a b c : World} (h : Ext a b) (k : Ext b c) : Ext a c := Below.trans h (Below.mono k h.size)
theorem Ext.drew {a b : World} (h : Ext a b) : Ext a b.drew := Below.drew h
theorem Ext.drewN {a b : World} (h : Ext a b) (n : Nat) : Ext a (b.drewN n) := ⟨h.os, h.tape, h.output, h.size, h.block⟩
theorem Ext.alloc {a b : World} (h : Ext a b) (o : Obj) : Ext a (b.alloc o) := Below.alloc h h.size o
theorem Ext.grown' {a b c : World} (h : Ext a b) (hg : b.grownBy c none) : Ext a c := Below.grown h hg h.size (fun k hk => by cases hk)
theorem Ext.setCell {a b : World} (h : Ext a b) {g i : Nat} (hg : a.heap.size ≤ g) (u : Value) : Ext a (b.setCell ⟨g, i, none⟩ u) := Below.setCell (p := ⟨g, i, none⟩) h hg u
theorem Ext.storeNew {a b c : World} (h : Ext a b) {o : Obj} (hG : (b.alloc o).grownBy c (some b.heap.size)) : Ext a c := Below.grown (h.alloc o) hG (h.alloc o).size (fun k hk => by cases hk; exact h.size)
theorem Ext.cell {a b : World} (h : Ext a b) {g i : Nat} (hp : g < a.heap.size) : b.cell? ⟨g, i, none⟩ = a.cell? ⟨g, i, none⟩ := Below.cell (p := ⟨g, i, none⟩) h hp
theorem Ext.le {a b : World} (h : Ext a b) : a.heap.size ≤ b.heap.size := h.size
theorem cellNew (w : World) (cs : Array Value) (t : TypeId) (fr : Nat × Nat) (i : Nat) : (w.alloc (.cells cs t fr)).cell? ⟨w.heap.size, i, none⟩ = cs[i]? := World.cell?_alloc_mark w cs t fr i
theorem belowNew (w : World) (o : Obj) : Below w.heap.size w (w.alloc o) := (Below.refl _ _).alloc (Nat.le_refl _) o
theorem extNew (w : World) (o : Obj) : Ext w (w.alloc o) := belowNew w o

/-- A slice that reads as these bytes, its memory below block B. -/
def Bytes (w : World) (B : Nat) (A : Option Addr) (n : Nat) (l : List UInt8) : Prop :=
  l.length = n ∧ (n = 0 ∨ ∃ b off, A = some ⟨b, off, none⟩ ∧ b < B ∧ ∀ i, i < n → w.cell? ⟨b, off + i, none⟩ = some (.int .u8 ((l.getD i 0).toNat : Int)))
theorem Bytes.below {w w' : World} {B C : Nat} {A : Option Addr} {n : Nat} {l : List UInt8} (h : Bytes w B A n l) (hb : Below C w w') (hC : B ≤ C) : Bytes w' B A n l := by
  refine ⟨h.1, ?_⟩
  rcases h.2 with h0 | ⟨b, off, hA, hB, hc⟩
  · exact .inl h0
  · exact .inr ⟨b, off, hA, hB, fun i hi => by rw [hb.cell (p := ⟨b, off + i, none⟩) (Nat.lt_of_lt_of_le hB hC)]; exact hc i hi⟩
theorem Bytes.mono {w : World} {B C : Nat} {A : Option Addr} {n : Nat} {l : List UInt8} (h : Bytes w B A n l) (hC : B ≤ C) : Bytes w C A n l := by
  refine ⟨h.1, ?_⟩
  rcases h.2 with h0 | ⟨b, off, hA, hB, hc⟩
  · exact .inl h0
  · exact .inr ⟨b, off, hA, Nat.lt_of_lt_of_le hB hC, hc⟩
theorem Ext.bytes {a b : World} (h : Ext a b) {A : Option Addr} {n : Nat} {l : List UInt8} (hb : Bytes a a.heap.size A n l) : Bytes b b.heap.size A n l := (hb.below h (Nat.le_refl _)).mono h.size
theorem Bytes.take {w : World} {B : Nat} {A : Option Addr} {n : Nat} {l : List UInt8} (h : Bytes w B A n l) {k : Nat} (hk : k ≤ n) : Bytes w B A k (l.take k) := by
  refine ⟨by rw [List.length_take, h.1]; omega, ?_⟩
  rcases h.2 with h0 | ⟨b, off, hA, hB, hc⟩
  · exact .inl (by omega)
  · refine .inr ⟨b, off, hA, hB, fun i hi => ?_⟩
    rw [hc i (by omega)]
    simp [List.getD_eq_getElem?_getD, hi]
theorem Bytes.none (w : World) (B : Nat) (A : Option Addr) : Bytes w B A 0 [] := ⟨rfl, .inl rfl⟩

/-- Where a slice begins that is cut at k: at the end of its room it stays where it was. -/
def cutAt (A : Option Addr) (c k : Nat) : Option Addr := if c = k then A else A.map (·.add k)
theorem Bytes.drop {w : World} {B : Nat} {A : Option Addr} {n : Nat} {l : List UInt8} (h : Bytes w B A n l) {k c : Nat} (hk : k ≤ n) (hc : n ≤ c) : Bytes w B (cutAt A c k) (n - k) (l.drop k) := by
  refine ⟨by rw [List.length_drop, h.1], ?_⟩
  by_cases hkn : k = n
  · exact .inl (by omega)
  rcases h.2 with h0 | ⟨b, off, rfl, hB, hcell⟩
  · exact .inl (by omega)
  · refine .inr ⟨b, off + k, ?_, hB, fun i hi => ?_⟩
    · simp [cutAt, show ¬ c = k by omega, Addr.add]
    · rw [Nat.add_assoc, hcell (k + i) (by omega)]
      simp [List.getD_eq_getElem?_getD]
/-- New bytes. -/
def byteCells (l : List UInt8) : Array Value := (l.map fun c => Value.int .u8 (c.toNat : Int)).toArray
theorem bytesNew (w : World) (l : List UInt8) (cs : Array Value) (t : TypeId) (fr : Nat × Nat) (h : cs = byteCells l) (n : Nat) (hn : l.length = n) :
    Bytes (w.alloc (.cells cs t fr)) (w.alloc (.cells cs t fr)).heap.size (some ⟨w.heap.size, 0, none⟩) n l := by
  subst h
  subst hn
  refine ⟨rfl, .inr ⟨w.heap.size, 0, rfl, by simp, fun i hi => ?_⟩⟩
  rw [Nat.zero_add, World.cell?_alloc_mark]
  simp [hi, byteCells]

theorem run_cut (W : World) (a : Option Addr) (n c : Nat) (k : IntKind) (l : Int) (h0 : 0 ≤ l) (h1 : l ≤ n) :
    (Instr.slice 24 (.slice a n c) (some (.int k l)) none none).run Try.prog W = .ok (.slice (cutAt a c l.toNat) (n - l.toNat) (c - l.toNat)) W := by
  rw [run_slice_l (P := Try.prog) (w := W) 24 a n c (by kernel_rfl) k l h0 h1]
  have hs : (sizeOf (Try.prog.elem 24)).run Try.prog W = .ok 1 W := by kernel_rfl
  rw [hs]
  simp [Result.andThen, sliced, cutAt]
end Go.Proofs.Ytdpeidijaohgcaa

namespace Go.Proofs.Ytdpeidijaohgcaa
open Go.RowKit

def byteV (c : UInt8) : Value := .int .u8 (c.toNat : Int)
/-- v is nil, or lies in a block of the call's own (from base on), and reads as these bytes. -/
def OwnB (w : World) (base : Nat) (v : Value) (l : List UInt8) : Prop := w.ownsRow base 5 1 v l.length (l.map byteV)
theorem byte_info : (Try.prog.info? 5).map (fun i => (i.zero, i.size, i.bytes)) = some (some (.int .u8 0), 1, 1) := by kernel_rfl

theorem OwnB.nil (w : World) (base : Nat) : OwnB w base (.slice none 0 0) [] := World.ownsRow_nil w base _ _
theorem Ext.grown {w w' : World} (h : Ext w w') (row : Option Nat) : w.grownBy w' row := ⟨h.os, h.tape, h.output, h.size, fun i hi _ => h.block i hi⟩
theorem OwnB.empty (w : World) {base : Nat} (h : base ≤ w.heap.size) : OwnB (w.alloc (.cells #[] 5)) base (.slice (some ⟨w.heap.size, 0, none⟩) 0 0) [] :=
  World.ownsRow_made (size := 1) w #[] 0 h (by unfold maxLen; omega) (by simp)
theorem OwnB.lit (w : World) (cs : Array Value) (l : List UInt8) (n : Nat) (hcs : cs = (l.map byteV).toArray) (hn : l.length = n) (hm : n ≤ 1000) {base : Nat} (h : base ≤ w.heap.size) :
    OwnB (w.alloc (.cells cs 5)) base (.slice (some ⟨w.heap.size, 0, none⟩) n n) l := by
  subst hcs
  subst hn
  have := World.ownsRow_lit (e := 5) (size := 1) w (l.map byteV).toArray l.length h (by unfold maxLen; omega) (by simp)
  simpa [OwnB] using this
theorem OwnB.ext {w w' : World} {base : Nat} {v : Value} {l : List UInt8} (h : OwnB w base v l) (hE : Ext w w') : OwnB w' base v l :=
  World.ownsRow.kept h (hE.grown none) (by cases hv : v.ownBlock <;> simp)
theorem OwnB.form {w : World} {base : Nat} {v : Value} {l : List UInt8} (h : OwnB w base v l) :
    ∃ A c, v = .slice A l.length c ∧ l.length ≤ c ∧ c ≤ maxLen ∧ Bytes w w.heap.size A l.length l := by
  have hl := h.lt
  rcases h.2 with ⟨rfl, h0⟩ | ⟨g, cap, cur, rfl, hb, hg, hn, hc, hs, ht⟩
  · exact ⟨none, 0, by rw [h0], by omega, by unfold maxLen; omega, rfl, .inl h0⟩
  · refine ⟨_, cap, rfl, hn, hc, rfl, .inr ⟨g, 0, rfl, (hl g rfl).2, fun i hi => ?_⟩⟩
    have hk := World.ownsRow.cellAt h i (by omega)
    rw [Nat.zero_add, hk]
    simp [byteV, hi]
theorem OwnB.form' {w : World} {base : Nat} {v : Value} {l : List UInt8} (h : OwnB w base v l) : ∃ A n c, v = .slice A n c ∧ n ≤ c ∧ n ≤ l.length ∧ Bytes w w.heap.size A n l := by
  obtain ⟨A, c, hv, hc, _, hb⟩ := h.form
  exact ⟨A, _, c, hv, hc, Nat.le_refl _, hb⟩
theorem OwnB.mono {w : World} {base base' : Nat} {v : Value} {l : List UInt8} (h : OwnB w base v l) (hb : base' ≤ base) : OwnB w base' v l :=
  ⟨h.1, h.2.elim Or.inl fun ⟨g, cap, cur, hv, hg, r⟩ => Or.inr ⟨g, cap, cur, hv, Nat.le_trans hb hg, r⟩⟩
/-- How long it may be. -/
theorem OwnB.len_le {w : World} {base : Nat} {v : Value} {l : List UInt8} (h : OwnB w base v l) : l.length ≤ maxLen := by
  obtain ⟨_, c, _, h1, h2, _⟩ := h.form
  omega

theorem run_append_zero (w : World) (ty : TypeId) (base : Nat) (v : Value) (l : List UInt8) (hown : OwnB w base v l) (A : Option Addr) (c : Nat) :
    (Builtin.append_ #[24, 24] ty #[v, .slice A 0 c]).run Try.prog w = .ok v w := by
  obtain ⟨i, hi, _, _, _⟩ := info_parts byte_info
  rcases hown.2 with ⟨rfl, _⟩ | ⟨g, cap, cur, rfl, _, _, hnc, _⟩
  · cases A <;> simp [Builtin.append_, run_underlying Try.underlying24, sizeOf, typeInfo, hi, Builtin.lenOf, Builtin.firstCells, loadCells, loadCellsFrom]
  · cases A <;> simp [Builtin.append_, run_underlying Try.underlying24, sizeOf, typeInfo, hi, Builtin.lenOf, Builtin.firstCells, loadCells, loadCellsFrom, hnc, storeCells]

/-- Where bytes of the call's own lie, if there are any. -/
theorem OwnB.formG {w : World} {base : Nat} {v : Value} {l : List UInt8} (h : OwnB w base v l) (hl : 0 < l.length) : ∃ g c, v = .slice (some ⟨g, 0, none⟩) l.length c ∧ base ≤ g ∧ l.length ≤ c := by
  rcases h.2 with ⟨_, h0⟩ | ⟨g, cap, _, rfl, hb, _, hn, _⟩
  · omega
  · exact ⟨g, cap, rfl, hb, hn⟩
theorem OwnB.cell {w : World} {base g n c : Nat} {l : List UInt8} (h : OwnB w base (.slice (some ⟨g, 0, none⟩) n c) l) {i : Nat} (hi : i < l.length) :
    w.cell? ⟨g, i, none⟩ = some (.int .u8 ((l.getD i 0).toNat : Int)) ∧ w.frozen? ⟨g, i, none⟩ = false := by
  have hn : n = l.length := by
    rcases h.2 with ⟨h', _⟩ | ⟨_, _, _, h', _⟩
    · simp at h'
    · simp only [Value.slice.injEq] at h'; exact h'.2.1
  subst hn
  refine ⟨?_, World.ownsRow.frozenAt h i⟩
  rw [World.ownsRow.cellAt h i (by omega)]
  simp [byteV, hi]
theorem OwnB.set {w : World} {base g n c : Nat} {l : List UInt8} (h : OwnB w base (.slice (some ⟨g, 0, none⟩) n c) l) (i : Nat) (x : UInt8) :
    OwnB (w.setCell ⟨g, i, none⟩ (.int .u8 (x.toNat : Int))) base (.slice (some ⟨g, 0, none⟩) n c) (l.set i x) := by
  have hn : n = l.length := by
    rcases h.2 with ⟨h', _⟩ | ⟨_, _, _, h', _⟩
    · simp at h'
    · simp only [Value.slice.injEq] at h'; exact h'.2.1
  subst hn
  have := (World.ownsRow.stored h i (byteV x)).1
  unfold OwnB
  rw [List.length_set, List.map_set]
  exact this
/-- append of bytes, wherever they lie. -/
theorem app_run {w : World} (ty : TypeId) {base : Nat} {v : Value} {l : List UInt8} (hown : OwnB w base v l) {A : Option Addr} {m : Nat} {k : List UInt8} (c : Nat) (hb : Bytes w w.heap.size A m k)
    (hlen : l.length + m ≤ 140737488355328) (hbase : base ≤ w.heap.size) :
    ∃ v' w', (Builtin.append_ #[24, 24] ty #[v, .slice A m c]).run Try.prog w = .ok v' w' ∧ OwnB w' base v' (l ++ k) ∧ w.grownBy w' v.ownBlock := by
  obtain ⟨hk, hb⟩ := hb
  rcases hb with rfl | ⟨b, off, rfl, hB, hc⟩
  · obtain rfl := List.eq_nil_of_length_eq_zero hk
    exact ⟨v, w, run_append_zero w ty base v l hown A c, by simpa using hown, World.grownBy.refl w _⟩
  · obtain ⟨i, hi, hz, hs, hby⟩ := info_parts byte_info
    obtain ⟨v', w', hr, h2, h3, _⟩ := run_append_own (P := Try.prog) w base 24 ty 5 i _ 1 1 Try.underlying24 hi hz hs hby rfl (by omega) v l.length (l.map byteV) hown
      ⟨b, off, none⟩ m c (k.map byteV) (by simpa using hk) (by
        intro j u hu
        have hj : j < m := by
          rcases Nat.lt_or_ge j m with h | h
          · exact h
          · rw [List.getElem?_eq_none (by simp; omega)] at hu; cases hu
        have hadd : (⟨b, off, none⟩ : Addr).add j = ⟨b, off + j, none⟩ := by unfold Addr.add; split <;> simp_all
        rw [hadd, hc j hj]
        rw [List.getElem?_map, List.getElem?_eq_getElem (by omega)] at hu
        rw [List.getD_eq_getElem?_getD, List.getElem?_eq_getElem (by omega)]
        simpa [byteV] using hu) (by
        intro u hu
        obtain ⟨x, _, rfl⟩ := List.mem_map.1 hu
        rfl) (by unfold maxLen; omega) (by omega) hbase
    refine ⟨v', w', hr, ?_, h3⟩
    unfold OwnB
    rw [List.length_append, hk, List.map_append]
    exact h2
/-- append of one byte: it is laid in a block of its own first. -/
theorem app_one {w : World} (ty : TypeId) {base : Nat} {v : Value} {l : List UInt8} (hown : OwnB w base v l) (x : UInt8) (hlen : l.length + 1 ≤ 140737488355328) (hbase : base ≤ w.heap.size) :
    ∃ v' w', (Builtin.append_ #[24, 24] ty #[v, .slice (some ⟨w.heap.size, 0, none⟩) 1 1]).run Try.prog (w.alloc (.cells #[.int .u8 (x.toNat : Int)] 5)) = .ok v' w' ∧ OwnB w' base v' (l ++ [x]) ∧
      (w.alloc (.cells #[.int .u8 (x.toNat : Int)] 5)).grownBy w' v.ownBlock :=
  app_run ty (hown.ext (extNew w _)) 1 (bytesNew w [x] _ _ _ rfl 1 rfl) hlen (by simp; omega)
/-- The same at the operation. -/
theorem wp_app {o : Oper} {a : Act} {K : Act → World → Prop} {Q : Exit → Act → World → Prop} {w : World} (s x : Operand)
    (ho : o.op = .call { callee := .builtin .append, args := #[s, x], argTypes := #[24, 24] }) {base : Nat} {v : Value} {l : List UInt8} (hs : a.eval s = v) (hown : OwnB w base v l)
    {A : Option Addr} {m c : Nat} {k : List UInt8} (hx : a.eval x = .slice A m c) (hb : Bytes w w.heap.size A m k) (hlen : l.length + m ≤ 140737488355328) (hbase : base ≤ w.heap.size)
    (h : ∀ v' w', OwnB w' base v' (l ++ k) → w.grownBy w' v.ownBlock → K (a.put o.dst v') w') : o.wp Try.prog a w K Q := by
  obtain ⟨v', w', hr, h2, h3⟩ := app_run o.type hown c hb hlen hbase
  unfold Oper.wp execOp
  simp only [ho, resolve, invoke, builtin, Sem.run_bind, Sem.run_pure, Result.andThen_ok, List.map_toArray, List.map_cons, List.map_nil, hs, hx, hr]
  exact h v' w' h2 h3
/-- The same for a walk of a plain region. -/
theorem wpList_app {ops : Array Oper} {rest : List Oper} {o : Oper} {a : Act} {Q : Exit → Act → World → Prop} {w : World} (hgd : o.guard = none) (s x : Operand)
    (ho : o.op = .call { callee := .builtin .append, args := #[s, x], argTypes := #[24, 24] }) {base : Nat} {v : Value} {l : List UInt8} (hs : a.eval s = v) (hown : OwnB w base v l)
    {A : Option Addr} {m c : Nat} {k : List UInt8} (hx : a.eval x = .slice A m c) (hb : Bytes w w.heap.size A m k) (hlen : l.length + m ≤ 140737488355328) (hbase : base ≤ w.heap.size)
    (h : ∀ v' w', OwnB w' base v' (l ++ k) → w.grownBy w' v.ownBlock → wpList Try.prog ops Q rest (a.put o.dst v') w') : wpList Try.prog ops Q (o :: rest) a w :=
  wpList_plain hgd fun _ hK => wp_app s x ho hs hown hx hb hlen hbase fun v' w' h2 h3 => hK _ _ (h v' w' h2 h3)
/-- The same for a region that draws its order. -/
theorem step_app {ops : Array Oper} {o : Oper} {a : Act} {K : Act → World → Prop} {Q : Exit → Act → World → Prop} {E : Prop} {w : World} (hgd : o.guard = none) (s x : Operand)
    (ho : o.op = .call { callee := .builtin .append, args := #[s, x], argTypes := #[24, 24] }) {base : Nat} {v : Value} {l : List UInt8} (hs : a.eval s = v) (hown : OwnB w base v l)
    {A : Option Addr} {m c : Nat} {k : List UInt8} (hx : a.eval x = .slice A m c) (hb : Bytes w w.heap.size A m k) (hlen : l.length + m ≤ 140737488355328) (hbase : base ≤ w.heap.size)
    (h : ∀ v' w', OwnB w' base v' (l ++ k) → w.grownBy w' v.ownBlock → K (a.put o.dst v') w') :
    if Region.wanted o (yielded ops a.tmps) = true then Oper.wp Try.prog o a w K Q else E := by
  have hw : Region.wanted o (yielded ops a.tmps) = true := by simp [Region.wanted, hgd]
  rw [if_pos hw]
  exact wp_app s x ho hs hown hx hb hlen hbase h
/-- Behind a call that makes bytes: they lie in new memory. -/
def MadeB (w : World) (l : List UInt8) (e : Ending) (w' : World) : Prop := ∃ v, e = .returned v ∧ OwnB w' w.heap.size v l ∧ Ext w w'
/-- What an append leaves of the memory below base. -/
theorem OwnB.below {w0 w w' : World} {base : Nat} {v : Value} {l : List UInt8} (h : OwnB w base v l) (hb : Below base w0 w) (hg : w.grownBy w' v.ownBlock) (hbase : base ≤ w.heap.size) : Below base w0 w' :=
  hb.grown hg hbase fun k hk => (h.lt k hk).1
end Go.Proofs.Ytdpeidijaohgcaa

namespace Go.Proofs.Ytdpeidijaohgcaa
open Go.RowKit

namespace Bit
/-- Bit i of bytes, of each byte the highest first. -/
def at_ (l : List UInt8) (i : Nat) : Bool := (l.getD (i / 8) 0).toNat.testBit (7 - i % 8)
/-- n bits as a number, the highest first. -/
def val (f : Nat → Bool) : Nat → Nat
  | 0 => 0
  | n + 1 => 2 * val f n + (f n).toNat
/-- x in n bits. -/
def num (x n : Nat) : List Bool := (List.range n).map fun i => x.testBit (n - 1 - i)
/-- How many bits 0 stand ahead of the first 1 of n bits. -/
def zeros : Nat → (Nat → Bool) → Nat
  | 0, _ => 0
  | n + 1, f => if f 0 then 0 else 1 + zeros n fun i => f (i + 1)

theorem val_lt (f : Nat → Bool) : ∀ n, val f n < 2 ^ n
  | 0 => by simp [val]
  | n + 1 => by
    have := val_lt f n
    have hb : (f n).toNat ≤ 1 := by cases f n <;> simp
    rw [val, Nat.pow_succ]
    omega
theorem val_congr {f g : Nat → Bool} : ∀ n, (∀ i, i < n → f i = g i) → val f n = val g n
  | 0, _ => rfl
  | n + 1, h => by rw [val, val, val_congr n fun i hi => h i (by omega), h n (by omega)]
theorem val_add (f : Nat → Bool) (k : Nat) : ∀ m, val f (k + m) = val f k * 2 ^ m + val (fun i => f (k + i)) m
  | 0 => by simp [val]
  | m + 1 => by
    rw [← Nat.add_assoc, val, val, val_add f k m, Nat.pow_succ, Nat.mul_add]
    have : 2 * (val f k * 2 ^ m) = val f k * (2 ^ m * 2) := by rw [Nat.mul_comm 2, Nat.mul_assoc]
    omega
theorem testBit_toNat (x i : Nat) : (x.testBit i).toNat = x / 2 ^ i % 2 := by
  rw [Nat.testBit_eq_decide_div_mod_eq]
  have : x / 2 ^ i % 2 < 2 := Nat.mod_lt _ (by omega)
  rcases (by omega : x / 2 ^ i % 2 = 0 ∨ x / 2 ^ i % 2 = 1) with h | h <;> simp [h]
/-- The m bits of c from the place p on downwards. -/
theorem val_down (c p : Nat) : ∀ m, m ≤ p → val (fun i => c.testBit (p - 1 - i)) m = c / 2 ^ (p - m) % 2 ^ m
  | 0, _ => by simp [val, Nat.mod_one]
  | m + 1, h => by
    rw [val, val_down c p m (by omega), testBit_toNat]
    obtain ⟨q, rfl⟩ : ∃ q, p = q + (m + 1) := ⟨p - (m + 1), by omega⟩
    rw [show q + (m + 1) - m = q + 1 by omega, show q + (m + 1) - 1 - m = q by omega, show q + (m + 1) - (m + 1) = q by omega]
    rw [Nat.pow_succ 2 q, ← Nat.div_div_eq_div_mul, Nat.pow_succ 2 m, Nat.mul_comm (2 ^ m) 2, Nat.mod_mul]
    omega
theorem val_num {x n : Nat} (h : x < 2 ^ n) : val (fun i => x.testBit (n - 1 - i)) n = x := by
  rw [val_down x n n (Nat.le_refl n), Nat.sub_self, Nat.pow_zero, Nat.div_one, Nat.mod_eq_of_lt h]
theorem val_zero : ∀ n, val (fun _ => false) n = 0
  | 0 => rfl
  | n + 1 => by rw [val, val_zero n]; rfl
theorem val_shift (f : Nat → Bool) (k m : Nat) (h : ∀ i, k ≤ i → i < k + m → f i = false) : val f (k + m) = val f k * 2 ^ m := by
  rw [val_add, val_congr (g := fun _ => false) m fun i hi => h (k + i) (by omega) (by omega), val_zero, Nat.add_zero]

theorem zeros_le : ∀ n f, zeros n f ≤ n
  | 0, _ => by simp [zeros]
  | n + 1, f => by
    have := zeros_le n fun i => f (i + 1)
    rw [zeros]
    split <;> omega
theorem zeros_false : ∀ n f i, i < zeros n f → f i = false
  | 0, _, i, h => by simp [zeros] at h
  | n + 1, f, i, h => by
    rw [zeros] at h
    split at h
    · omega
    · rename_i h0
      rcases i with _ | i
      · simpa using h0
      · exact zeros_false n (fun i => f (i + 1)) i (by omega)
theorem zeros_true : ∀ n f, zeros n f < n → f (zeros n f) = true
  | 0, _, h => by omega
  | n + 1, f, h => by
    by_cases h0 : f 0 = true
    · have hz : zeros (n + 1) f = 0 := by rw [zeros, if_pos h0]
      rw [hz]; exact h0
    · have hz : zeros (n + 1) f = zeros n (fun i => f (i + 1)) + 1 := by rw [zeros, if_neg h0]; omega
      rw [hz] at h ⊢
      exact zeros_true n (fun i => f (i + 1)) (by omega)
theorem zeros_eq {n z : Nat} {f : Nat → Bool} (h1 : z ≤ n) (h2 : ∀ i, i < z → f i = false) (h3 : z < n → f z = true) : zeros n f = z := by
  have hle := zeros_le n f
  rcases Nat.lt_trichotomy (zeros n f) z with h | h | h
  · have := zeros_true n f (by omega)
    rw [h2 _ h] at this
    cases this
  · exact h
  · have := zeros_false n f z h
    rw [h3 (by omega)] at this
    cases this
theorem zeros_congr {n : Nat} {f g : Nat → Bool} (h : ∀ i, i < n → f i = g i) : zeros n f = zeros n g := by
  have hle := zeros_le n g
  exact zeros_eq hle (fun i hi => by rw [h i (by omega)]; exact zeros_false n g i hi) (fun hz => by rw [h _ hz]; exact zeros_true n g hz)

theorem num_length (x n : Nat) : (num x n).length = n := by simp [num]
theorem num_getD (x n i : Nat) (h : i < n) : (num x n).getD i false = x.testBit (n - 1 - i) := by simp [num, List.getD_eq_getElem?_getD, h]
theorem testBit_high {x n i : Nat} (h : x < 2 ^ n) (hi : n ≤ i) : x.testBit i = false := Nat.testBit_lt_two_pow (Nat.lt_of_lt_of_le h (Nat.pow_le_pow_right (by omega) hi))

/-- These bytes are just these bits, with bits 0 behind the last one. -/
def Packs (l : List UInt8) (B : List Bool) : Prop := l.length = (B.length + 7) / 8 ∧ ∀ i, i < 8 * l.length → at_ l i = B.getD i false

theorem u8_ext {a b : UInt8} (h : ∀ j, j < 8 → a.toNat.testBit j = b.toNat.testBit j) : a = b := by
  apply UInt8.toNat_inj.1
  apply Nat.eq_of_testBit_eq
  intro j
  by_cases hj : j < 8
  · exact h j hj
  · rw [testBit_high (n := 8) a.toNat_lt (by omega), testBit_high (n := 8) b.toNat_lt (by omega)]
theorem getD_ext {a b : List UInt8} (h : a.length = b.length) (hx : ∀ i, i < a.length → a.getD i 0 = b.getD i 0) : a = b := by
  apply List.ext_getElem h
  intro i h1 h2
  have := hx i h1
  simpa [List.getD_eq_getElem?_getD, h1, h2] using this
theorem Packs.uniq {a b : List UInt8} {B : List Bool} (ha : Packs a B) (hb : Packs b B) : a = b := by
  have hl : a.length = b.length := ha.1.trans hb.1.symm
  refine getD_ext hl fun i hi => u8_ext fun j hj => ?_
  have h1 := ha.2 (8 * i + (7 - j)) (by omega)
  have h2 := hb.2 (8 * i + (7 - j)) (by omega)
  unfold at_ at h1 h2
  rw [show (8 * i + (7 - j)) / 8 = i by omega, show 7 - (8 * i + (7 - j)) % 8 = j by omega] at h1 h2
  rw [h1, h2]
theorem Packs.nil : Packs [] [] := ⟨by simp, fun i hi => by simp at hi⟩
theorem at_zeros (l : List UInt8) (k i : Nat) : at_ (l ++ List.replicate k 0) i = (if i < 8 * l.length then at_ l i else false) := by
  unfold at_
  by_cases h : i < 8 * l.length
  · have h1 : i / 8 < l.length := by omega
    rw [if_pos h, List.getD_eq_getElem?_getD, List.getElem?_append_left h1, List.getD_eq_getElem?_getD]
  · have h1 : l.length ≤ i / 8 := by omega
    rw [if_neg h, List.getD_eq_getElem?_getD, List.getElem?_append_right h1, List.getElem?_replicate]
    split <;> simp
theorem getD_app_right (B C : List Bool) (i : Nat) (h : B.length ≤ i) : (B ++ C).getD i false = C.getD (i - B.length) false := by
  simp only [List.getD_eq_getElem?_getD]
  rw [List.getElem?_append_right h]
theorem getD_app_left (B C : List Bool) (i : Nat) (h : i < B.length) : (B ++ C).getD i false = B.getD i false := by
  simp only [List.getD_eq_getElem?_getD]
  rw [List.getElem?_append_left h]
theorem getD_far (B : List Bool) (i : Nat) (h : B.length ≤ i) : B.getD i false = false := by
  simp only [List.getD_eq_getElem?_getD]
  rw [List.getElem?_eq_none h]; rfl
theorem getD_falses (B : List Bool) (n i : Nat) : (B ++ List.replicate n false).getD i false = B.getD i false := by
  by_cases h : i < B.length
  · exact getD_app_left _ _ _ h
  · rw [getD_app_right _ _ _ (by omega), getD_far B i (by omega), List.getD_eq_getElem?_getD, List.getElem?_replicate]
    split <;> rfl
/-- What widening leaves. -/
theorem Packs.widen {l : List UInt8} {B : List Bool} (h : Packs l B) (n : Nat) : Packs (l ++ List.replicate ((B.length + n + 7) / 8 - l.length) 0) (B ++ List.replicate n false) := by
  have h1 := h.1
  refine ⟨by simp; omega, fun i hi => ?_⟩
  rw [at_zeros, getD_falses]
  by_cases hx : i < 8 * l.length
  · rw [if_pos hx]; exact h.2 i hx
  · rw [if_neg hx, getD_far B i (by omega)]

/-- While x is laid behind the bits B, in n bits, up to the place 'p'. -/
def Adds (B : List Bool) (x n : Nat) (l : List UInt8) (p : Nat) : Prop :=
  l.length = (B.length + n + 7) / 8 ∧ B.length ≤ p ∧ p ≤ B.length + n ∧ (p = B.length ∨ p % 8 = 0 ∨ p = B.length + n) ∧
  ∀ i, i < 8 * l.length → at_ l i = (if i < B.length then B.getD i false else (decide (i < p) && x.testBit (B.length + n - 1 - i)))
theorem Adds.start {l : List UInt8} {B : List Bool} (h : Packs l B) (x n : Nat) : Adds B x n (l ++ List.replicate ((B.length + n + 7) / 8 - l.length) 0) B.length := by
  have h2 := h.widen n
  have h1 := h.1
  refine ⟨by simp; omega, Nat.le_refl _, by omega, .inl rfl, fun i hi => ?_⟩
  rw [h2.2 i hi, getD_falses]
  by_cases hx : i < B.length
  · rw [if_pos hx]
  · rw [if_neg hx, getD_far B i (by omega), decide_eq_false hx]; rfl
theorem Adds.done {l : List UInt8} {B : List Bool} {x n : Nat} (h : Adds B x n l (B.length + n)) : Packs l (B ++ num x n) := by
  refine ⟨by rw [h.1, List.length_append, num_length], fun i hi => ?_⟩
  rw [h.2.2.2.2 i hi]
  by_cases h1 : i < B.length
  · rw [if_pos h1, getD_app_left _ _ _ h1]
  · rw [if_neg h1, getD_app_right _ _ _ (by omega)]
    by_cases h2 : i < B.length + n
    · rw [decide_eq_true h2, Bool.true_and, num_getD _ _ _ (by omega)]
      congr 1
      omega
    · rw [decide_eq_false h2, getD_far _ _ (by rw [num_length]; omega)]; rfl
theorem at_set (l : List UInt8) (j i : Nat) (c : UInt8) (hj : j < l.length) : at_ (l.set j c) i = (if i / 8 = j then c.toNat.testBit (7 - i % 8) else at_ l i) := by
  unfold at_
  simp only [List.getD_eq_getElem?_getD, List.getElem?_set]
  by_cases h : i / 8 = j
  · rw [if_pos h, if_pos h.symm, if_pos hj]; rfl
  · rw [if_neg h, if_neg (fun e => h e.symm)]
/-- The byte that a piece of x makes of an old one. -/
def mix (c : UInt8) (x s t : Nat) : UInt8 := c ||| UInt8.ofNat ((x >>> s) % 256 * 2 ^ t)
theorem mix_bit (c : UInt8) (x s t j : Nat) (hj : j < 8) : (mix c x s t).toNat.testBit j = (c.toNat.testBit j || (decide (t ≤ j) && x.testBit (s + (j - t)))) := by
  unfold mix
  rw [UInt8.toNat_or, Nat.testBit_or, UInt8.toNat_ofNat', Nat.testBit_mod_two_pow, decide_eq_true hj, Bool.true_and, Nat.testBit_mul_two_pow]
  by_cases h : t ≤ j
  · rw [decide_eq_true h, Bool.true_and, Bool.true_and, show (256 : Nat) = 2 ^ 8 from rfl, Nat.testBit_mod_two_pow, decide_eq_true (show j - t < 8 by omega), Bool.true_and, Nat.testBit_shiftRight]
  · rw [decide_eq_false h]
    simp
theorem Adds.step {l : List UInt8} {B : List Bool} {x n p k : Nat} (h : Adds B x n l p) (hx : x < 2 ^ n) (hk : k = min (B.length + n - p) (8 - p % 8)) (hp : p < B.length + n) :
    Adds B x n (l.set (p / 8) (mix (l.getD (p / 8) 0) x (B.length + n - p - k) (8 - p % 8 - k))) (p + k) := by
  obtain ⟨h1, h2, h3, h4, h5⟩ := h
  have hj : p / 8 < l.length := by omega
  refine ⟨by rw [List.length_set]; exact h1, by omega, by omega, by omega, fun i hi => ?_⟩
  rw [List.length_set] at hi
  have h5i := h5 i hi
  rw [at_set _ _ _ _ hj]
  by_cases hb : i / 8 = p / 8
  · rw [if_pos hb, mix_bit _ _ _ _ _ (by omega)]
    have hat : (l.getD (p / 8) 0).toNat.testBit (7 - i % 8) = at_ l i := by unfold at_; rw [hb]
    rw [hat, h5i]
    by_cases hi1 : i < B.length
    · rw [if_pos hi1, if_pos hi1]
      by_cases ht : 8 - p % 8 - k ≤ 7 - i % 8
      · rw [testBit_high hx (by omega)]; simp
      · simp [ht]
    · rw [if_neg hi1, if_neg hi1]
      by_cases hip : i < p
      · rw [decide_eq_true hip, decide_eq_true (show i < p + k by omega)]
        omega
      · rw [decide_eq_false hip, Bool.false_and, Bool.false_or]
        by_cases hik : i < p + k
        · rw [decide_eq_true hik, decide_eq_true (show 8 - p % 8 - k ≤ 7 - i % 8 by omega)]
          congr 2
          omega
        · rw [decide_eq_false hik, decide_eq_false (show ¬ 8 - p % 8 - k ≤ 7 - i % 8 by omega)]
          rfl
  · rw [if_neg hb, h5i]
    by_cases hi1 : i < B.length
    · rw [if_pos hi1, if_pos hi1]
    · rw [if_neg hi1, if_neg hi1]
      by_cases hip : i < p
      · rw [decide_eq_true hip, decide_eq_true (show i < p + k by omega)]
      · rw [decide_eq_false hip, decide_eq_false (show ¬ i < p + k by omega)]
/-- A piece of a byte that is read. -/
theorem val_byte (l : List UInt8) (p m : Nat) (h : p % 8 + m ≤ 8) : val (fun i => at_ l (p + i)) m = (l.getD (p / 8) 0).toNat / 2 ^ (8 - p % 8 - m) % 2 ^ m := by
  rw [← val_down _ (8 - p % 8) m (by omega)]
  refine val_congr m fun i hi => ?_
  unfold at_
  rw [show (p + i) / 8 = p / 8 by omega, show 7 - (p + i) % 8 = 8 - p % 8 - 1 - i by omega]
end Bit
end Go.Proofs.Ytdpeidijaohgcaa

namespace Go.Proofs.Ytdpeidijaohgcaa
open Go.RowKit

/-- Block g is just these cells, none of them frozen. -/
def Whole (w : World) (g : Nat) (t : TypeId) (cs : Array Value) : Prop := w.heap[g]? = some (.cells cs t (0, 0))
section
variable {w W : World} {g : Nat} {t : TypeId} {cs : Array Value}
theorem Whole.lt (h : Whole w g t cs) : g < w.heap.size := (Array.getElem?_eq_some_iff.1 h).1
theorem Whole.cell (h : Whole w g t cs) (i : Nat) : w.cell? ⟨g, i, none⟩ = cs[i]? := cell_of_row w g i cs t (0, 0) h
theorem Whole.frozen (h : Whole w g t cs) (i : Nat) : w.frozen? ⟨g, i, none⟩ = false := frozen_of_row w g i cs t h
theorem Whole.new (w : World) (t : TypeId) (cs : Array Value) : Whole (w.alloc (.cells cs t)) w.heap.size t cs := heap_alloc_new w _
theorem Whole.alloc (h : Whole w g t cs) (o : Obj) : Whole (w.alloc o) g t cs := (Below.heap_alloc w o g h.lt).trans h
theorem Whole.set (h : Whole w g t cs) (i : Nat) (u : Value) : Whole (w.setCell ⟨g, i, none⟩ u) g t (cs.setIfInBounds i u) := heap_setCell_same w g i cs t u h
theorem Whole.far (h : Whole w g t cs) {b : Nat} (hb : g ≠ b) (i : Nat) (u : Value) : Whole (w.setCell ⟨b, i, none⟩ u) g t cs := (Below.heap_setCell w ⟨b, i, none⟩ u g hb).trans h
theorem Whole.ext (h : Whole w g t cs) (hE : Ext w W) : Whole W g t cs := (hE.block g h.lt).trans h
theorem Whole.below {B : Nat} (h : Whole w g t cs) (hE : Below B w W) (hg : g < B) : Whole W g t cs := (hE.block g hg).trans h
theorem Whole.grown (h : Whole w g t cs) {b : Nat} (hE : w.grownBy W (some b)) (hb : g ≠ b) : Whole W g t cs := (hE.block g h.lt (by simpa using hb)).trans h
end
theorem setCells_grown (g : Nat) : ∀ (vs : List Value) (o : Nat) (w : World), w.grownBy (w.setCells g o vs) (some g) ∧ (w.setCells g o vs).heap.size = w.heap.size
  | [], _, w => ⟨World.grownBy.refl w _, rfl⟩
  | v :: r, o, w => by
    have h1 : w.grownBy (w.setCell ⟨g, o, none⟩ v) (some g) := ⟨rfl, rfl, rfl, by simp, fun k _ hk => Below.heap_setCell w ⟨g, o, none⟩ v k (fun e => hk (by rw [e]))⟩
    obtain ⟨h2, h3⟩ := setCells_grown g r (o + 1) (w.setCell ⟨g, o, none⟩ v)
    exact ⟨h1.trans h2, by show ((w.setCell ⟨g, o, none⟩ v).setCells g (o + 1) r).heap.size = _; rw [h3]; simp⟩
theorem Whole.setCells {g : Nat} {t : TypeId} : ∀ (vs : List Value) (o : Nat) (w : World) (cs : Array Value), Whole w g t cs → o + vs.length ≤ cs.size →
    ∃ cs', Whole (w.setCells g o vs) g t cs' ∧ cs'.size = cs.size ∧ (∀ i, i < o → cs'[i]? = cs[i]?) ∧ ∀ j, j < vs.length → cs'[o + j]? = vs[j]?
  | [], _, _, cs, h, _ => ⟨cs, h, rfl, fun _ _ => rfl, fun j hj => by simp at hj⟩
  | v :: r, o, w, cs, h, hl => by
    simp only [List.length_cons] at hl
    obtain ⟨cs', h1, h2, h3, h4⟩ := Whole.setCells r (o + 1) (w.setCell ⟨g, o, none⟩ v) _ (h.set o v) (by simp; omega)
    refine ⟨cs', h1, by simpa using h2, fun i hi => by rw [h3 i (by omega), Array.getElem?_setIfInBounds_ne (by omega)], fun j hj => ?_⟩
    rcases j with _ | j
    · rw [Nat.add_zero, h3 o (by omega), Array.getElem?_setIfInBounds_self_of_lt (by omega)]
      rfl
    · rw [show o + (j + 1) = o + 1 + j by omega, h4 j (by simpa using hj)]
      rfl
theorem Whole.storeAll {w : World} {g : Nat} {t : TypeId} {cs cells : Array Value} (h : Whole w g t cs) (hs : cells.size = cs.size) : Whole (w.setCells g 0 cells.toList) g t cells := by
  obtain ⟨cs', h1, h2, _, h4⟩ := Whole.setCells cells.toList 0 w cs h (by simp [hs])
  have : cs' = cells := by
    apply Array.ext_getElem?
    intro i
    by_cases hi : i < cells.size
    · have := h4 i (by simpa using hi)
      rw [Nat.zero_add] at this
      rw [this]; simp
    · rw [Array.getElem?_eq_none (by omega), Array.getElem?_eq_none (by omega)]
  rwa [this] at h1
/-- An element of an array as a value. -/
theorem run_indexArr {P : Program} (t e : TypeId) (n : Nat) (cs : Array Value) (k : IntKind) (i : Nat) (v : Value) (W : World) (ht : P.underlying t = some (.array n e)) (hn : i < n) (hs : ∀ W, (sizeOf e).run P W = .ok 1 W) (ha : ∀ W, (isAgg e).run P W = .ok false W) (hv : cs[i]? = some v) :
    (Instr.index t (.agg cs) (.int k (i : Int))).run P W = .ok v W := by
  have h1 : (0 : Int) ≤ (i : Int) ∧ (i : Int) < (n : Int) := by omega
  simp [Instr.index, asIntOf, run_underlying ht, h1, hs, part, ha, hv]
  exact fun h => absurd hn (by omega)
/-- A whole array stored into a block that is known whole. -/
theorem wpList_storeW {P : Program} {ops : Array Oper} {rest : List Oper} {op : Oper} {a : Act} {w : World} {Q : Exit → Act → World → Prop} (hgd : op.guard = none) (ty : TypeId) (x y : Operand) (ho : op.op = .store ty x y)
    {g : Nat} {t : TypeId} {cs cells : Array Value} (hx : a.eval x = .pointer (some ⟨g, 0, none⟩)) (hy : a.eval y = .agg cells) (hw : Whole w g t cs) (hs : cells.size = cs.size)
    (hi : (P.info? ty).map (·.size) = some cells.size) (h1 : cells.all (·.oneCell') = true)
    (h : ∀ w', Whole w' g t cells → w.grownBy w' (some g) → w'.heap.size = w.heap.size → wpList P ops Q rest (a.put op.dst undef) w') : wpList P ops Q (op :: rest) a w := by
  refine wpList_store_mid hgd ty x y ho g 0 cells hx hy (fun j hj => ?_) hi h1 (h _ (hw.storeAll hs) (setCells_grown g _ _ _).1 (setCells_grown g _ _ _).2)
  rw [Nat.zero_add]
  refine ⟨?_, hw.frozen j⟩
  rw [hw.cell j, Array.getElem?_eq_getElem (by omega)]
  rfl
end Go.Proofs.Ytdpeidijaohgcaa

namespace Go.Proofs.Ytdpeidijaohgcaa
open Go.RowKit

theorem ret_i64 {a b : Int} (h : a = b) : Ending.returned (.int .i64 a) = .returned (.int .i64 b) := by rw [h]
/-- Everything that was there is there as it was, but block g and block ob. -/
structure Mod (w w' : World) (g : Nat) (ob : Option Nat) : Prop where
  os : w'.os = w.os
  tape : w'.tape = w.tape
  output : w'.output = w.output
  size : w.heap.size ≤ w'.heap.size
  block : ∀ k, k < w.heap.size → k ≠ g → some k ≠ ob → w'.heap[k]? = w.heap[k]?
/-- The own block is the one that it was, or was made since. -/
def NewOb (w : World) (ob ob' : Option Nat) : Prop := ob' = ob ∨ ∃ n, ob' = some n ∧ w.heap.size ≤ n
theorem NewOb.same (w : World) (ob : Option Nat) : NewOb w ob ob := .inl rfl
theorem NewOb.trans {a b : World} {o1 o2 o3 : Option Nat} (h : NewOb a o1 o2) (hs : a.heap.size ≤ b.heap.size) (k : NewOb b o2 o3) : NewOb a o1 o3 := by
  rcases k with rfl | ⟨n, rfl, hn⟩
  · exact h
  · exact .inr ⟨n, rfl, by omega⟩
theorem NewOb.ne {w : World} {ob ob' : Option Nat} (h : NewOb w ob ob') {g : Nat} (hg : g < w.heap.size) (ho : ob ≠ some g) : ob' ≠ some g := by
  rcases h with rfl | ⟨n, rfl, hn⟩
  · exact ho
  · intro e
    injection e with e
    omega
theorem NewOb.le {w : World} {ob ob' : Option Nat} (h : NewOb w ob ob') {b : Nat} (hb : b ≤ w.heap.size) (ho : ∀ k, ob = some k → b ≤ k) : ∀ k, ob' = some k → b ≤ k := by
  rcases h with rfl | ⟨n, rfl, hn⟩
  · exact ho
  · intro k e
    injection e with e
    omega
section
variable {a b c w w' : World} {g : Nat} {ob ob' : Option Nat}
theorem Mod.refl (w : World) (g : Nat) (ob : Option Nat) : Mod w w g ob := ⟨rfl, rfl, rfl, Nat.le_refl _, fun _ _ _ _ => rfl⟩
theorem Mod.trans (h : Mod a b g ob) (k : Mod b c g ob') (ho : NewOb a ob ob') : Mod a c g ob :=
  ⟨k.os.trans h.os, k.tape.trans h.tape, k.output.trans h.output, Nat.le_trans h.size k.size, fun i hi hg hb =>
    (k.block i (Nat.lt_of_lt_of_le hi h.size) hg (fun e => ho.ne hi (fun e' => hb e'.symm) e.symm)).trans (h.block i hi hg hb)⟩
theorem Mod.ofRow (h : w.grownBy w' (some g)) : Mod w w' g ob := ⟨h.os, h.tape, h.output, h.size, fun k hk hg _ => h.block k hk (fun e => hg (by injection e))⟩
theorem Mod.ofOwn (h : w.grownBy w' ob) : Mod w w' g ob := ⟨h.os, h.tape, h.output, h.size, fun k hk _ ho => h.block k hk ho⟩
theorem Mod.ofExt (h : Ext w w') : Mod w w' g ob := ⟨h.os, h.tape, h.output, h.size, fun k hk _ _ => h.block k hk⟩
theorem Mod.drew (w : World) : Mod w w.drew g ob := Mod.ofExt (Ext.refl w).drew
theorem Mod.below (h : Mod a b g ob) {B : Nat} (hB : B ≤ a.heap.size) (hg : B ≤ g) (ho : ∀ k, ob = some k → B ≤ k) : Below B a b :=
  ⟨h.os, h.tape, h.output, h.size, fun k hk => h.block k (by omega) (by omega) (fun e => by have := ho k e.symm; omega)⟩
theorem Mod.whole (h : Mod w w' g ob) {x : Nat} {t : TypeId} {cs : Array Value} (hw : Whole w x t cs) (hg : x ≠ g) (ho : ob ≠ some x) : Whole w' x t cs := (h.block x hw.lt hg (fun e => ho e.symm)).trans hw
theorem Mod.own (h : Mod w w' g ob) {base : Nat} {v : Value} {l : List UInt8} (hv : OwnB w base v l) (hg : v.ownBlock ≠ some g) (ho : v.ownBlock = none ∨ v.ownBlock ≠ ob) : OwnB w' base v l := by
  refine ⟨hv.1, ?_⟩
  rcases hv.2 with hn | ⟨x, cap, cur, rfl, hb, hgg, rest⟩
  · exact .inl hn
  · refine .inr ⟨x, cap, cur, rfl, hb, ?_, rest⟩
    rw [h.block x (Array.getElem?_eq_some_iff.1 hgg).1 (by intro e; subst e; simp [Value.ownBlock] at hg) (by
      intro e
      rcases ho with ho | ho
      · simp [Value.ownBlock] at ho
      · exact ho (by simpa [Value.ownBlock] using e))]
    exact hgg
theorem Mod.cell (h : Mod w w' g ob) {x i : Nat} (hx : x < w.heap.size) (hg : x ≠ g) (ho : ob ≠ some x) : w'.cell? ⟨x, i, none⟩ = w.cell? ⟨x, i, none⟩ :=
  World.cell?_of_block (a := ⟨x, i, none⟩) (h.block x hx hg (fun e => ho e.symm))
end
theorem OwnB.newOb {w : World} {base : Nat} {v : Value} {l : List UInt8} (h : OwnB w base v l) : ∀ k, v.ownBlock = some k → base ≤ k := fun k hk => (h.lt k hk).1
theorem OwnB.ltOb {w : World} {base : Nat} {v : Value} {l : List UInt8} (h : OwnB w base v l) : ∀ k, v.ownBlock = some k → k < w.heap.size := fun k hk => (h.lt k hk).2
theorem OwnB.far {w : World} {base g : Nat} {v : Value} {l : List UInt8} (h : OwnB w base v l) (hg : v.ownBlock ≠ some g) (i : Nat) (u : Value) : OwnB (w.setCell ⟨g, i, none⟩ u) base v l :=
  (Mod.ofRow (ob := none) (show w.grownBy (w.setCell ⟨g, i, none⟩ u) (some g) from ⟨rfl, rfl, rfl, by simp, fun k _ hk => Below.heap_setCell w ⟨g, i, none⟩ u k (fun e => hk (by rw [e]))⟩)).own h hg (by cases v.ownBlock <;> simp)
theorem grown_setCell (w : World) (g i : Nat) (u : Value) : w.grownBy (w.setCell ⟨g, i, none⟩ u) (some g) := ⟨rfl, rfl, rfl, by simp, fun k _ hk => Below.heap_setCell w ⟨g, i, none⟩ u k (fun e => hk (by rw [e]))⟩

/-- append of bytes, wherever they lie; where what comes back lies. -/
theorem app_run_at {w : World} (ty : TypeId) {base : Nat} {v : Value} {l : List UInt8} (hown : OwnB w base v l) {A : Option Addr} {m : Nat} {k : List UInt8} (c : Nat) (hb : Bytes w w.heap.size A m k)
    (hlen : l.length + m ≤ 140737488355328) (hbase : base ≤ w.heap.size) :
    ∃ v' w', (Builtin.append_ #[24, 24] ty #[v, .slice A m c]).run Try.prog w = .ok v' w' ∧ OwnB w' base v' (l ++ k) ∧ w.grownBy w' v.ownBlock ∧ NewOb w v.ownBlock v'.ownBlock := by
  obtain ⟨hk, hb⟩ := hb
  rcases hb with rfl | ⟨b, off, rfl, hB, hc⟩
  · obtain rfl := List.eq_nil_of_length_eq_zero hk
    exact ⟨v, w, run_append_zero w ty base v l hown A c, by simpa using hown, World.grownBy.refl w _, .inl rfl⟩
  · obtain ⟨i, hi, hz, hs, hby⟩ := info_parts byte_info
    obtain ⟨v', w', hr, h2, h3, _, h5⟩ := run_append_own_at (P := Try.prog) w base 24 ty 5 i _ 1 1 Try.underlying24 hi hz hs hby rfl (by omega) v l.length (l.map byteV) hown
      ⟨b, off, none⟩ m c (k.map byteV) (by simpa using hk) (by
        intro j u hu
        have hj : j < m := by
          rcases Nat.lt_or_ge j m with h | h
          · exact h
          · rw [List.getElem?_eq_none (by simp; omega)] at hu; cases hu
        have hadd : (⟨b, off, none⟩ : Addr).add j = ⟨b, off + j, none⟩ := by unfold Addr.add; split <;> simp_all
        rw [hadd, hc j hj]
        rw [List.getElem?_map, List.getElem?_eq_getElem (by omega)] at hu
        rw [List.getD_eq_getElem?_getD, List.getElem?_eq_getElem (by omega)]
        simpa [byteV] using hu) (by
        intro u hu
        obtain ⟨x, _, rfl⟩ := List.mem_map.1 hu
        rfl) (by unfold maxLen; omega) (by omega) hbase
    refine ⟨v', w', hr, ?_, h3, h5.imp id fun h => ⟨_, h, Nat.le_refl _⟩⟩
    unfold OwnB
    rw [List.length_append, hk, List.map_append]
    exact h2
theorem zeroCells_byte (n : Nat) : Builtin.zeroCells (Value.int .u8 0).cells n = ((List.replicate n (0 : UInt8)).map byteV).toArray := by
  apply Array.ext
  · rw [size_zeroCells]; simp [Value.cells]
  · intro i h1 h2
    simp [Builtin.zeroCells, Value.cells, byteV, Nat.mod_one]
/-- append of n bytes 0. -/
theorem app_zero_run {w : World} (ty : TypeId) {base : Nat} {v : Value} {l : List UInt8} (hown : OwnB w base v l) (n : Nat) (hlen : l.length + n ≤ 140737488355328) (hbase : base ≤ w.heap.size) :
    ∃ v' w', (Builtin.append_ #[24, 3] ty #[v, .int .i64 n]).run Try.prog w = .ok v' w' ∧ OwnB w' base v' (l ++ List.replicate n 0) ∧ w.grownBy w' v.ownBlock ∧ NewOb w v.ownBlock v'.ownBlock := by
  obtain ⟨i, hi, hz, hs, hby⟩ := info_parts byte_info
  have hw : IntKind.i64.wrap (n : Int) = n := by rw [IntKind.wrap_i64]; omega
  have hneg : ¬ ((n : Int) < 0) := by omega
  have hw0 : IntKind.i64.wrap 0 = 0 := by rw [IntKind.wrap_i64]; omega
  have h48i : ¬ (281474976710656 < (n : Int)) := by omega
  have hsz : Try.prog.info? 5 = some i := hi
  -- what the growing arm leaves
  have grown : ∀ (old : Nat), old < l.length + n → ∀ (row : Option Nat),
      OwnB (w.drew.alloc (.cells ((l.map byteV).toArray ++ Builtin.zeroCells (Value.int .u8 0).cells n ++ Builtin.zeroCells (Value.int .u8 0).cells (grownCap w (l.length + n) old 5 - (l.length + n))) 5)) base
        (.slice (some ⟨w.heap.size, 0, none⟩) (l.length + n) (grownCap w (l.length + n) old 5)) (l ++ List.replicate n 0) ∧
      w.grownBy (w.drew.alloc (.cells ((l.map byteV).toArray ++ Builtin.zeroCells (Value.int .u8 0).cells n ++ Builtin.zeroCells (Value.int .u8 0).cells (grownCap w (l.length + n) old 5 - (l.length + n))) 5)) row := by
    intro old ho row
    have hge := grownCap_ge w (l.length + n) old 5
    have hcm : grownCap w (l.length + n) old 5 ≤ maxLen := grownCap_le_maxLen w (l.length + n) old 5 (by unfold maxLen; omega)
    refine ⟨?_, ⟨rfl, rfl, rfl, by simp, fun k hk _ => Below.heap_alloc w.drew _ k hk⟩⟩
    unfold OwnB
    rw [List.length_append, List.length_replicate]
    refine ⟨by simp, .inr ⟨w.heap.size, _, _, rfl, hbase, heap_alloc_new w.drew _, hge, hcm, ?_, ?_⟩⟩
    · simp only [Array.size_append, size_zeroCells]
      simp [Value.cells]
      omega
    · rw [zeroCells_byte n, List.map_append]
      simp only [Array.toList_append, Nat.mul_one]
      rw [List.take_append_of_le_length (by simp), List.take_of_length_le (by simp)]
  rcases hown.2 with ⟨rfl, h0⟩ | ⟨g, cap, cur, rfl, hbg, hg, hnc, hcm, hcs, htake⟩
  · have hl : l = [] := List.eq_nil_of_length_eq_zero h0
    subst hl
    by_cases hn : n = 0
    · subst hn
      refine ⟨.slice none 0 0, w, ?_, by simpa using hown, World.grownBy.refl w _, .inl rfl⟩
      simp [Builtin.append_, run_underlying Try.underlying24, run_underlying Try.underlying3, sizeOf, typeInfo, hsz, asInt, asIntOf, hby, hw0]
    · have h48' : ¬ (281474976710656 < Builtin.nextslicecap n 0) := by rw [nextslicecap_zero (by omega)]; omega
      have h63' : ¬ (9223372036854775807 < (n : Int)) := by omega
      have hgr := grown 0 (by simp; omega) (Value.ownBlock (.slice none 0 0))
      simp only [List.length_nil, Nat.zero_add, List.map_nil, List.nil_append, Array.empty_append] at hgr ⊢
      refine ⟨_, _, ?_, hgr.1, hgr.2, .inr ⟨_, rfl, Nat.le_refl _⟩⟩
      simp [Builtin.append_, run_underlying Try.underlying24, run_underlying Try.underlying3, sizeOf, typeInfo, zeroValue, hsz, hz, asInt, asIntOf, hs, hby, hw, hneg, h48i, hn, h48', h63', Question.forced, run_firstCells_none, newRow, grownCap]
  · by_cases hroom : l.length + n ≤ cap
    · by_cases hn : n = 0
      · subst hn
        refine ⟨_, w, ?_, by simpa using hown, World.grownBy.refl w _, .inl rfl⟩
        simp [Builtin.append_, run_underlying Try.underlying24, run_underlying Try.underlying3, sizeOf, typeInfo, hsz, asInt, asIntOf, hw0, hnc, storeCells]
      have hst := run_storeCells_at Try.prog g l.length 5 ((List.replicate n (0 : UInt8)).map byteV) 0 cur w hg (by simp; omega) (by
        intro u hu
        obtain ⟨x, _, rfl⟩ := List.mem_map.1 hu
        rfl)
      have hsr := setRow_heap w g cur ((cur.toList.take (l.length + 0) ++ (List.replicate n (0 : UInt8)).map byteV ++ cur.toList.drop (l.length + 0 + ((List.replicate n (0 : UInt8)).map byteV).length)).toArray) _ _ hg
      have hzc : (Builtin.zeroCells (Value.int .u8 0).cells n).toList = (List.replicate n (0 : UInt8)).map byteV := by rw [zeroCells_byte]
      refine ⟨.slice (some ⟨g, 0, none⟩) (l.length + n) cap, w.setRow g ((cur.toList.take (l.length + 0) ++ (List.replicate n (0 : UInt8)).map byteV ++ cur.toList.drop (l.length + 0 + ((List.replicate n (0 : UInt8)).map byteV).length)).toArray), ?_, ?_,
        ⟨rfl, rfl, rfl, by simp, fun k _ hk => setRow_other w g k _ (fun e => hk (by simp [Value.ownBlock, e]))⟩, .inl rfl⟩
      · simp [Builtin.append_, run_underlying Try.underlying24, run_underlying Try.underlying3, sizeOf, typeInfo, zeroValue, hsz, hz, asInt, asIntOf, hs, hby, hw, hneg, h48i, hn, hroom, Addr.add_lit, hzc, -List.map_replicate]
        rw [hst]
        simp [-List.map_replicate]
      · unfold OwnB
        rw [List.length_append, List.length_replicate]
        refine ⟨by simp, .inr ⟨g, cap, _, rfl, hbg, hsr, hroom, hcm, ?_, ?_⟩⟩
        · simp; omega
        · rw [Nat.mul_one] at htake
          rw [Nat.add_zero, htake, List.map_append, Nat.mul_one]
          rw [List.take_append_of_le_length (by simp), List.take_of_length_le (by simp)]
    · have hlo : (l.map byteV).length = l.length * i.size := by rw [hs]; simp
      have hfo := run_firstCells_some (P := Try.prog) w.drew i.size l.length ⟨g, 0, none⟩ l.length cap (l.map byteV) hlo (by simpa using hown.cells (g := g) rfl)
      have hgr := grown cap (by omega) (Value.ownBlock (.slice (some ⟨g, 0, none⟩) l.length cap))
      have hn : n ≠ 0 := by omega
      have h63' : ¬ (9223372036854775807 < ((l.length : Int) + (n : Int))) := by omega
      have h48' : ¬ (281474976710656 < Builtin.nextslicecap (l.length + n) cap) := by
        have := growslice_fits (need := l.length + n) (old := cap) (bytes := 1) (by omega) (by omega)
        omega
      refine ⟨_, _, ?_, hgr.1, hgr.2, .inr ⟨_, rfl, Nat.le_refl _⟩⟩
      simp [Builtin.append_, run_underlying Try.underlying24, run_underlying Try.underlying3, sizeOf, typeInfo, zeroValue, hsz, hz, asInt, asIntOf, hs, hby, hw, hneg, h48i, hn, hroom, h63', h48', Question.forced, newRow, grownCap]
      rw [hs] at hfo
      simp [hfo]
section
variable {o : Oper} {a : Act} {K : Act → World → Prop} {Q : Exit → Act → World → Prop} {w : World} {base : Nat} {v : Value} {l : List UInt8}
theorem wp_appAt (s x : Operand) (ho : o.op = .call { callee := .builtin .append, args := #[s, x], argTypes := #[24, 24] }) (hs : a.eval s = v) (hown : OwnB w base v l)
    {A : Option Addr} {m c : Nat} {k : List UInt8} (hx : a.eval x = .slice A m c) (hb : Bytes w w.heap.size A m k) (hlen : l.length + m ≤ 140737488355328) (hbase : base ≤ w.heap.size)
    (h : ∀ v' w', OwnB w' base v' (l ++ k) → w.grownBy w' v.ownBlock → NewOb w v.ownBlock v'.ownBlock → K (a.put o.dst v') w') : o.wp Try.prog a w K Q := by
  obtain ⟨v', w', hr, h2, h3, h4⟩ := app_run_at o.type hown c hb hlen hbase
  unfold Oper.wp execOp
  simp only [ho, resolve, invoke, builtin, Sem.run_bind, Sem.run_pure, Result.andThen_ok, List.map_toArray, List.map_cons, List.map_nil, hs, hx, hr]
  exact h v' w' h2 h3 h4
theorem wp_zerosAt (s x : Operand) (ho : o.op = .call { callee := .builtin .append, args := #[s, x], argTypes := #[24, 3] }) (hs : a.eval s = v) (hown : OwnB w base v l)
    (n : Nat) (hx : a.eval x = .int .i64 n) (hlen : l.length + n ≤ 140737488355328) (hbase : base ≤ w.heap.size)
    (h : ∀ v' w', OwnB w' base v' (l ++ List.replicate n 0) → w.grownBy w' v.ownBlock → NewOb w v.ownBlock v'.ownBlock → K (a.put o.dst v') w') : o.wp Try.prog a w K Q := by
  obtain ⟨v', w', hr, h2, h3, h4⟩ := app_zero_run o.type hown n hlen hbase
  unfold Oper.wp execOp
  simp only [ho, resolve, invoke, builtin, Sem.run_bind, Sem.run_pure, Result.andThen_ok, List.map_toArray, List.map_cons, List.map_nil, hs, hx, hr]
  exact h v' w' h2 h3 h4
theorem wpList_appAt {ops : Array Oper} {rest : List Oper} (hgd : o.guard = none) (s x : Operand) (ho : o.op = .call { callee := .builtin .append, args := #[s, x], argTypes := #[24, 24] }) (hs : a.eval s = v) (hown : OwnB w base v l)
    {A : Option Addr} {m c : Nat} {k : List UInt8} (hx : a.eval x = .slice A m c) (hb : Bytes w w.heap.size A m k) (hlen : l.length + m ≤ 140737488355328) (hbase : base ≤ w.heap.size)
    (h : ∀ v' w', OwnB w' base v' (l ++ k) → w.grownBy w' v.ownBlock → NewOb w v.ownBlock v'.ownBlock → wpList Try.prog ops Q rest (a.put o.dst v') w') : wpList Try.prog ops Q (o :: rest) a w :=
  wpList_plain hgd fun _ hK => wp_appAt s x ho hs hown hx hb hlen hbase fun v' w' h2 h3 h4 => hK _ _ (h v' w' h2 h3 h4)
theorem step_appAt {ops : Array Oper} {E : Prop} (hgd : o.guard = none) (s x : Operand) (ho : o.op = .call { callee := .builtin .append, args := #[s, x], argTypes := #[24, 24] }) (hs : a.eval s = v) (hown : OwnB w base v l)
    {A : Option Addr} {m c : Nat} {k : List UInt8} (hx : a.eval x = .slice A m c) (hb : Bytes w w.heap.size A m k) (hlen : l.length + m ≤ 140737488355328) (hbase : base ≤ w.heap.size)
    (h : ∀ v' w', OwnB w' base v' (l ++ k) → w.grownBy w' v.ownBlock → NewOb w v.ownBlock v'.ownBlock → K (a.put o.dst v') w') :
    if Region.wanted o (yielded ops a.tmps) = true then Oper.wp Try.prog o a w K Q else E := by
  have hw : Region.wanted o (yielded ops a.tmps) = true := by simp [Region.wanted, hgd]
  rw [if_pos hw]
  exact wp_appAt s x ho hs hown hx hb hlen hbase h
theorem step_zerosAt {ops : Array Oper} {E : Prop} (hgd : o.guard = none) (s x : Operand) (ho : o.op = .call { callee := .builtin .append, args := #[s, x], argTypes := #[24, 3] }) (hs : a.eval s = v) (hown : OwnB w base v l)
    (n : Nat) (hx : a.eval x = .int .i64 n) (hlen : l.length + n ≤ 140737488355328) (hbase : base ≤ w.heap.size)
    (h : ∀ v' w', OwnB w' base v' (l ++ List.replicate n 0) → w.grownBy w' v.ownBlock → NewOb w v.ownBlock v'.ownBlock → K (a.put o.dst v') w') :
    if Region.wanted o (yielded ops a.tmps) = true then Oper.wp Try.prog o a w K Q else E := by
  have hw : Region.wanted o (yielded ops a.tmps) = true := by simp [Region.wanted, hgd]
  rw [if_pos hw]
  exact wp_zerosAt s x ho hs hown n hx hlen hbase h
end
theorem Whole.at {w : World} {g : Nat} {t : TypeId} {cs : Array Value} (h : Whole w g t cs) (i : Nat) {u : Value} (hu : cs[i]? = some u) : w.cell? ⟨g, i, none⟩ = some u := (h.cell i).trans hu
theorem Whole.ownGrown {w w' : World} {g : Nat} {t : TypeId} {cs : Array Value} {ob : Option Nat} (h : Whole w g t cs) (hG : w.grownBy w' ob) (ho : ob ≠ some g) : Whole w' g t cs := (hG.block g h.lt (fun e => ho e.symm)).trans h
/-- A value of one cell stored into a block that is known whole. -/
theorem wpList_storeC {ops : Array Oper} {rest : List Oper} {o : Oper} {a : Act} {w : World} {Q : Exit → Act → World → Prop} (hgd : o.guard = none) (ty : TypeId) (x y : Operand) (ho : o.op = .store ty x y)
    {g i : Nat} {t : TypeId} {cs : Array Value} (cs' : Array Value) {u : Value} (hx : a.eval x = .pointer (some ⟨g, i, none⟩)) (hy : a.eval y = u) (hw : Whole w g t cs) (hi : i < cs.size)
    (hs : (Try.prog.info? ty).map (·.size) = some 1) (h1 : u.oneCell' = true) (hcells : u.cells = #[u]) (hcs : cs.setIfInBounds i u = cs')
    (h : ∀ w', Whole w' g t cs' → w.grownBy w' (some g) → wpList Try.prog ops Q rest (a.put o.dst undef) w') : wpList Try.prog ops Q (o :: rest) a w := by
  subst hcs
  refine wpList_plain hgd fun _ hK => ?_
  have hst := run_storeCells_at Try.prog g i t [u] 0 cs w hw (by simp; omega) (fun x hx => by simp at hx; subst hx; exact h1)
  unfold Oper.wp execOp
  cases hq : Try.prog.info? ty with
  | none => simp [hq] at hs
  | some d =>
    have hs' : d.size = 1 := by simpa [hq] using hs
    have hr : (storeVar ty ⟨g, i, none⟩ u).run Try.prog w = .ok () (w.setRow g (cs.toList.take (i + 0) ++ [u] ++ cs.toList.drop (i + 0 + [u].length)).toArray) := by
      simp only [storeVar, sizeOf, typeInfo, hcells]
      simpa [hq, hs'] using hst
    simp only [ho, hx, hy, Instr.storeAt, Instr.sureAddr, Sem.run_bind, Sem.run_pure, Result.andThen_ok, hr]
    refine hK _ _ (h _ ?_ ⟨rfl, rfl, rfl, by simp, fun k _ hk => setRow_other w g k _ (fun e => hk (by simp [e]))⟩)
    have e : (cs.toList.take (i + 0) ++ [u] ++ cs.toList.drop (i + 0 + [u].length)).toArray = cs.setIfInBounds i u := by
      apply Array.ext'
      rw [Array.toList_setIfInBounds, List.set_eq_take_append_cons_drop, if_pos (by simpa using hi)]
      simp
    rw [e]
    exact setRow_heap w g cs _ _ _ hw
/-- 'min' of two numbers, with its value named. -/
theorem wpList_min {ops : Array Oper} {rest : List Oper} {o : Oper} {a : Act} {w : World} {Q : Exit → Act → World → Prop} (hgd : o.guard = none) (x y : Operand) {ts : Array TypeId} (ho : o.op = .call { callee := .builtin .min, args := #[x, y], argTypes := ts })
    {p q r : Int} {k : IntKind} (hx : a.eval x = .int k p) (hy : a.eval y = .int k q) (hr : (if q < p then q else p) = r) (h : wpList Try.prog ops Q rest (a.put o.dst (.int k r)) w) : wpList Try.prog ops Q (o :: rest) a w := by
  subst hr
  refine wpList_plain hgd fun _ hK => ?_
  unfold Oper.wp execOp
  simp only [ho, resolve, invoke, builtin, Sem.run_bind, Sem.run_pure, Result.andThen_ok, List.map_toArray, List.map_cons, List.map_nil, hx, hy, run_min_int2]
  exact hK _ _ h
/-- The world is as it was, but for what was drawn. -/
def Qt (w w' : World) : Prop := ∃ m, w' = w.drewN m
theorem Qt.refl (w : World) : Qt w w := ⟨0, rfl⟩
theorem Qt.drewN {a b : World} (h : Qt a b) (n : Nat) : Qt a (b.drewN n) := by
  obtain ⟨m, rfl⟩ := h
  exact ⟨m + n, World.drewN_drewN a m n⟩
theorem Qt.ext {a b : World} (h : Qt a b) : Ext a b := by
  obtain ⟨m, rfl⟩ := h
  exact (Ext.refl a).drewN m
theorem Qt.trans {a b c : World} (h : Qt a b) (k : Qt b c) : Qt a c := by
  obtain ⟨m, rfl⟩ := k
  exact h.drewN m
/-- 'b[l:h]'. -/
theorem run_mid (W : World) (a : Option Addr) (n c : Nat) (k k' : IntKind) (l h : Int) (h0 : 0 ≤ l) (h1 : l ≤ h) (h2 : h ≤ c) :
    (Instr.slice 24 (.slice a n c) (some (.int k l)) (some (.int k' h)) none).run Try.prog W = .ok (.slice (cutAt a c l.toNat) (h.toNat - l.toNat) (c - l.toNat)) W := by
  rw [run_slice_lh (P := Try.prog) (w := W) 24 a n c (by kernel_rfl) k k' l h h0 h1 h2]
  have hs : (sizeOf (Try.prog.elem 24)).run Try.prog W = .ok 1 W := by kernel_rfl
  rw [hs]
  simp [Result.andThen, sliced, cutAt]
end Go.Proofs.Ytdpeidijaohgcaa

namespace Go.Proofs.Ytdpeidijaohgcaa
open Go.RowKit

/-- The block g, of type t, begins with a writer's row: bytes l of the call's own at v, n bits; behind it stands R. -/
def WRowX (t : TypeId) (R : List Value) (w : World) (base g : Nat) (v : Value) (l : List UInt8) (n : Nat) : Prop :=
  Whole w g t (v :: .int .i64 n :: R).toArray ∧ OwnB w base v l ∧ v.ownBlock ≠ some g ∧ base ≤ g
/-- The block g is a writer's row. -/
abbrev WRow (w : World) (base g : Nat) (v : Value) (l : List UInt8) (n : Nat) : Prop := WRowX 75 [] w base g v l n
theorem row_at0 (a b : Value) (R : List Value) : (a :: b :: R).toArray[0]? = some a := by simp
theorem row_at1 (a b : Value) (R : List Value) : (a :: b :: R).toArray[1]? = some b := by simp
theorem row_lt1 (a b : Value) (R : List Value) : 1 < (a :: b :: R).toArray.size := by
  rw [List.size_toArray, List.length_cons, List.length_cons]
  omega
theorem row_set1 (a b u : Value) (R : List Value) : (a :: b :: R).toArray.setIfInBounds 1 u = (a :: u :: R).toArray := by simp
theorem Whole.set0 {w : World} {g : Nat} {t : TypeId} {a : Value} {R : List Value} (h : Whole w g t (a :: R).toArray) (u : Value) : Whole (w.setCell ⟨g, 0, none⟩ u) g t (u :: R).toArray := by
  have := h.set 0 u
  simpa using this
theorem WRowX.bound {t : TypeId} {R : List Value} {w : World} {base g n : Nat} {v : Value} {l : List UInt8} (h : WRowX t R w base g v l n) : base ≤ w.heap.size := Nat.le_trans h.2.2.2 (Nat.le_of_lt h.1.lt)
/-- Behind a call that turns a writer's row. -/
def WTurned (t : TypeId) (R : List Value) (w : World) (base g : Nat) (v : Value) (l : List UInt8) (n : Nat) (w' : World) : Prop := ∃ v', WRowX t R w' base g v' l n ∧ NewOb w v.ownBlock v'.ownBlock ∧ Mod w w' g v.ownBlock

theorem wrapI64 (x : Int) (h0 : 0 ≤ x) (h1 : x ≤ 9223372036854775807) : IntKind.i64.wrap x = x := by rw [IntKind.wrap_i64]; omega

set_option maxHeartbeats 1000000 in
theorem widen_any {t : TypeId} {R : List Value} {w : World} {base g S : Nat} {v : Value} {l : List UInt8} (n : Nat) (h : WRowX t R w base g v l S) (hn : S + n ≤ 1000000000) (hl : l.length ≤ (S + n + 7) / 8) :
    Calls Try.prog 55 #[.pointer (some ⟨g, 0, none⟩), .int .i64 n] w fun e w' => e = .returned (.tuple #[]) ∧ WTurned t R w base g v (l ++ List.replicate ((S + n + 7) / 8 - l.length) 0) (S + n) w' := by
  obtain ⟨hW, hO, hne, hb⟩ := h
  have c1 : w.cell? ⟨g, 1, none⟩ = some (.int .i64 S) := hW.at 1 (row_at1 ..)
  obtain ⟨k, hk⟩ : ∃ k, k = (S + n + 7) / 8 - l.length := ⟨_, rfl⟩
  have hd : IntKind.i64.wrap (((S : Int) + n + 8 - 1) / 8 - l.length) = (k : Int) := by rw [wrapI64 _ (by omega) (by omega)]; omega
  rw [← hk]
  obtain ⟨A, c, rfl, _, _, _⟩ := hO.form
  have hfit : l.length + k ≤ 140737488355328 := by omega
  clear hk
  go_enter Try.func55, Try.ntmps55
  go_wp2_with (refine wpList_storeC rfl 3 (.tmp 12) (.tmp 10) rfl (.slice A l.length c :: .int .i64 ((S : Int) + n) :: R).toArray rfl rfl hW (row_lt1 ..) (by kernel_rfl) rfl rfl (row_set1 ..) ?_; intro w1 hW1 hG1; have d0 : w1.cell? ⟨g, 0, none⟩ = some (.slice A l.length c) := hW1.at 0 (row_at0 ..); have d1 : w1.cell? ⟨g, 1, none⟩ = some (.int .i64 ((S : Int) + n)) := hW1.at 1 (row_at1 ..); have f0 := hW1.frozen 0; clear c1)
  have hO1 : OwnB w1.drew base (.slice A l.length c) l := ((Mod.ofRow (ob := none) hG1).own hO hne (by simp [Classical.em])).ext (Ext.refl _).drew
  have hB1 := Nat.le_trans (Nat.le_trans hb (Nat.le_of_lt hW.lt)) hG1.size
  have hW1' : Whole w1.drew g t (.slice A l.length c :: .int .i64 ((S : Int) + n) :: R).toArray := hW1
  go_region_law (refine step_zerosAt rfl (.tmp 24) (.tmp 31) rfl rfl hO1 k rfl hfit hB1 ?_; intro v2 w2 hO2 hG2' hN2'; have hG2 : w1.drew.grownBy w2 (Value.slice A l.length c).ownBlock := hG2'; have hN2 : NewOb w1 (Value.slice A l.length c).ownBlock v2.ownBlock := hN2'; clear hG2' hN2'; have hW2 := hW1'.ownGrown hG2 hne; obtain ⟨A2, c2, hv2, _, _, _⟩ := hO2.form; simp only [List.length_append, List.length_replicate] at hv2; subst hv2; have e0 := hW2.at 0 (row_at0 ..); have f2 := hW2.frozen 0)
  all_goals (
    go_end0
    refine ⟨rfl, _, ⟨hW2.set0 _, hO2.far (hN2.ne (g := g) hW1.lt hne) 0 _, hN2.ne (g := g) hW1.lt hne, hb⟩, ?_, ?_⟩
    · exact (NewOb.same w _).trans hG1.size hN2
    · exact ((Mod.ofRow (ob := (Value.slice A l.length c).ownBlock) hG1).trans ((Mod.ofExt (Ext.refl w1).drew).trans (Mod.ofOwn hG2) (.inl rfl)) (.inl rfl)).trans (Mod.ofRow (ob := (Value.slice A l.length c).ownBlock) (grown_setCell w2 g 0 _)) (.inl rfl))

theorem or_byte (c : UInt8) (x s t : Nat) : bits .or .u8 (c.toNat : Int) ((x : Int) / 2 ^ s % 256 * 2 ^ t % 256) = ((Bit.mix c x s t).toNat : Int) := by
  have e : ((x : Int) / 2 ^ s % 256 * 2 ^ t % 256) = (((x >>> s) % 256 * 2 ^ t % 256 : Nat) : Int) := by
    simp only [Nat.shiftRight_eq_div_pow, Int.natCast_emod, Int.natCast_mul, Int.natCast_ediv, Int.natCast_pow]
    rfl
  have hc := c.toNat_lt
  rw [e, u8_or_nat _ _ hc (Nat.mod_lt _ (by decide))]
  unfold Bit.mix
  rw [UInt8.toNat_or, UInt8.toNat_ofNat']
theorem WTurned.refl {t : TypeId} {R : List Value} {w : World} {base g n : Nat} {v : Value} {l : List UInt8} (h : WRowX t R w base g v l n) : WTurned t R w base g v l n w := ⟨v, h, .inl rfl, Mod.refl _ _ _⟩

set_option maxHeartbeats 1000000 in
theorem add_any {t : TypeId} {R : List Value} {w : World} {base g S : Nat} {v : Value} {l : List UInt8} {B : List Bool} (x n : Nat) (h : WRowX t R w base g v l S) (hP : Bit.Packs l B) (hS : B.length = S) (hx : x < 2 ^ n) (hn : n ≤ 64) (hfit : S ≤ 900000000) :
    Calls Try.prog 54 #[.pointer (some ⟨g, 0, none⟩), .int .u64 x, .int .i64 n] w fun e w' => e = .returned (.tuple #[]) ∧ ∃ l', Bit.Packs l' (B ++ Bit.num x n) ∧ WTurned t R w base g v l' (S + n) w' := by
  have hW := h.1
  have c1 : w.cell? ⟨g, 1, none⟩ = some (.int .i64 S) := hW.at 1 (row_at1 ..)
  have C1 := widen_any n h (by omega) (by have := hP.1; omega)
  have hA0 := Bit.Adds.start hP x n
  rw [hS] at hA0
  go_enter Try.func54, Try.ntmps54
  go_wp2_with (go_at_call 55; refine C1.mono ?_; rintro e w1 ⟨rfl, hT1⟩)
  go_loopw [2, 6] (fun m p wr => ∃ (q : Nat) (l1 : List UInt8), m = .int .i64 ((S + n - q : Nat) : Int) ∧ p = .int .i64 q ∧ q ≤ S + n ∧ Bit.Adds B x n l1 q ∧ WTurned t R w base g v l1 (S + n) wr) (fun m _ _ => (intOf m).toNat)
  case atStart => exact ⟨S, _, by simp, rfl, by omega, hA0, hT1⟩
  case round =>
    obtain ⟨q, l1, rfl, rfl, hq, hA, hT⟩ := hrel
    by_cases hlt : q < S + n
    · obtain ⟨v1, ⟨hW1, hO1, hne1, hb1⟩, hN1, hM1⟩ := hT
      have hl1 := hA.1
      obtain ⟨gb, cb, rfl, hgb, hcb⟩ := hO1.formG (by omega)
      have hcell := hO1.cell (i := q / 8) (by omega)
      obtain ⟨hc, hf⟩ := hcell
      have d0 : wr.cell? ⟨g, 0, none⟩ = some (.slice (some ⟨gb, 0, none⟩) l1.length cb) := hW1.at 0 (row_at0 ..)
      obtain ⟨m, hm⟩ : ∃ m, m = S + n - q := ⟨_, rfl⟩
      obtain ⟨k, hk⟩ : ∃ k, k = min m (8 - q % 8) := ⟨_, rfl⟩
      have hmin : (if (8 - (q : Int) % 8) < (m : Int) then (8 - (q : Int) % 8) else (m : Int)) = (k : Int) := by split <;> omega
      rw [← hm]
      have hm64 : m ≤ 64 := by have := hA.2.1; omega
      have hm0 : 0 < m := by omega
      have hkm : k ≤ m := by omega
      have hk8 : k ≤ 8 := by omega
      have hqL : (q : Int) / 8 < (l1.length : Int) := by omega
      have Hm := hide hm
      have Hk := hide hk
      clear hm hk
      go_wp2_with (refine wpList_min rfl (.tmp 21) (.tmp 22) rfl rfl rfl hmin ?_)
      have hor := or_byte (l1.getD (q / 8) 0) x (m - k) (8 - q % 8 - k)
      have HB := hide (hA.step hx (k := k) (by rw [hS, ← Hm.out]; exact Hk.out) (by omega))
      rw [hS, show S + n - q - k = m - k by rw [← Hm.out]] at HB
      generalize Bit.mix (l1.getD (q / 8) 0) x (m - k) (8 - q % 8 - k) = y at *
      simp only [List.getD_eq_getElem?_getD] at hor
      have HL := hide hl1
      clear hl1
      go_region
      go_wp2
      go_roundw
      case rel =>
        refine ⟨q + k, l1.set (q / 8) y, ?_, by go_num, by have := Hm.out; omega, HB.out, _, ⟨hW1.far ?_ _ _, ?_, hne1, hb1⟩, ?_, ?_⟩
        · rw [show ((m : Int) - k) = ((S + n - (q + k) : Nat) : Int) by have := Hm.out; omega]
        · exact fun e => hne1 (by simp [Value.ownBlock, e])
        · exact (hO1.set (q / 8) y).ext (Ext.refl _).drew
        · exact hN1
        · exact hM1.trans ((Mod.ofOwn (ob := some gb) (grown_setCell wr gb _ _)).trans (Mod.drew _) (.inl rfl)) hN1
      case measure => simp [intOf]; omega
    · obtain rfl : q = S + n := by omega
      have HB := hide (Bit.Adds.done (B := B) (x := x) (n := n) (l := l1) (by rw [hS]; exact hA))
      go_wp2
      go_end0
      exact ⟨rfl, l1, HB.out, hT⟩

end Go.Proofs.Ytdpeidijaohgcaa

namespace Go.Proofs.Ytdpeidijaohgcaa
open Go.RowKit

set_option maxHeartbeats 1000000 in
theorem slicesClone_any (A : Option Addr) (n c : Nat) (l : List UInt8) (w : World) (hc : n ≤ c) (hn : n ≤ 140737488355328) (hb : Bytes w w.heap.size A n l) :
    Calls Try.prog 46 #[.slice A n c] w (MadeB w l) := by
  have hnil := fun (W : World) (a : Option Addr) (n c n' c' : Nat) => Lib.run_eql_slice_nil (P := Try.prog) W 24 5 a n c n' c' Try.underlying24
  rcases A with _ | ad
  · have hl : l = [] := by
      rcases hb.2 with h0 | ⟨_, _, h, _⟩
      · exact List.eq_nil_of_length_eq_zero (by rw [hb.1, h0])
      · cases h
    subst hl
    have hn0 : n = 0 := hb.1.symm
    subst hn0
    go_enter Try.func46, Try.ntmps46
    go_wp2
    go_ret
    exact ⟨_, rfl, OwnB.nil _ _, Ext.refl _⟩
  · have ho := OwnB.empty w (Nat.le_refl _)
    have hb' := (extNew w (.cells #[] 5)).bytes hb
    have hB : w.heap.size ≤ (w.alloc (.cells #[] 5)).heap.size := by simp
    have hl0 : ([] : List UInt8).length + n ≤ 140737488355328 := by simpa using hn
    have hE := extNew w (.cells #[] 5)
    go_enter Try.func46, Try.ntmps46
    go_wp2_with (at_builtin; refine wpList_app rfl (.tmp 5) (.tmp 6) rfl rfl ho rfl hb' hl0 hB ?_; intro v1 w1 hown1 hg1)
    go_ret
    exact ⟨v1, rfl, hown1, ho.below hE hg1 hB⟩
end Go.Proofs.Ytdpeidijaohgcaa

namespace Go.Proofs.Ytdpeidijaohgcaa
open Go.RowKit

namespace Bit
/-- May x be put in n bits? -/
def fits (x : Nat) (n : Int) : Bool := decide (0 ≤ n ∧ n ≤ 64 ∧ x < 2 ^ n.toNat)
def putBits (x : Nat) (n : Int) : List Bool := if fits x n then num x n.toNat else []
def putErr (x : Nat) (n : Int) : Int := if fits x n then 0 else 13
def runs (n : Int) : Bool := decide (0 ≤ n ∧ n ≤ 100000)
def unBits (n : Nat) : List Bool := List.replicate n false ++ [true]
def unaryBits (n : Int) : List Bool := if runs n then unBits n.toNat else []
def unaryErr (n : Int) : Int := if runs n then 0 else 13
theorem put_bad {x : Nat} {n : Int} (h : fits x n = false) : putErr x n = 13 ∧ putBits x n = [] := by simp [putErr, putBits, h]
theorem put_good {x : Nat} {n : Int} (h : fits x n = true) : putErr x n = 0 ∧ putBits x n = num x n.toNat := by simp [putErr, putBits, h]
theorem unary_bad {n : Int} (h : runs n = false) : unaryErr n = 13 ∧ unaryBits n = [] := by simp [unaryErr, unaryBits, h]
theorem unary_good {n : Int} (h : runs n = true) : unaryErr n = 0 ∧ unaryBits n = unBits n.toNat := by simp [unaryErr, unaryBits, h]
theorem num_one : num 1 1 = [true] := by decide
theorem putBits_le (x : Nat) (n : Int) : (putBits x n).length ≤ 64 := by
  unfold putBits
  split
  · rename_i h
    have := of_decide_eq_true h
    rw [num_length]; omega
  · simp
theorem unaryBits_le (n : Int) : (unaryBits n).length ≤ 100001 := by
  unfold unaryBits
  split
  · rename_i h
    have := of_decide_eq_true h
    simp [unBits]; omega
  · simp
end Bit

/-- Block g, of type t, begins with a writer with these bits, R behind it; ob: the block of its bytes. -/
def WrtX (t : TypeId) (R : List Value) (w : World) (base g : Nat) (ob : Option Nat) (B : List Bool) : Prop := ∃ v l, WRowX t R w base g v l B.length ∧ Bit.Packs l B ∧ v.ownBlock = ob
/-- Block g is a writer with these bits. -/
abbrev Wrt (w : World) (base g : Nat) (ob : Option Nat) (B : List Bool) : Prop := WrtX 75 [] w base g ob B
/-- Behind a call that puts bits. -/
def PutsX (t : TypeId) (R : List Value) (w : World) (base g : Nat) (ob : Option Nat) (B : List Bool) (err : Int) (e : Ending) (w' : World) : Prop :=
  e = .returned (.int .i64 err) ∧ ∃ ob', WrtX t R w' base g ob' B ∧ NewOb w ob ob' ∧ Mod w w' g ob
abbrev Puts (w : World) (base g : Nat) (ob : Option Nat) (B : List Bool) (err : Int) (e : Ending) (w' : World) : Prop := PutsX 75 [] w base g ob B err e w'
theorem WrtX.bound {t : TypeId} {R : List Value} {w : World} {base g : Nat} {ob : Option Nat} {B : List Bool} (h : WrtX t R w base g ob B) : base ≤ w.heap.size := by obtain ⟨v, l, h, _⟩ := h; exact h.bound
theorem WrtX.lt {t : TypeId} {R : List Value} {w : World} {base g : Nat} {ob : Option Nat} {B : List Bool} (h : WrtX t R w base g ob B) : g < w.heap.size := by obtain ⟨v, l, h, _⟩ := h; exact h.1.lt
theorem WrtX.le {t : TypeId} {R : List Value} {w : World} {base g : Nat} {ob : Option Nat} {B : List Bool} (h : WrtX t R w base g ob B) : base ≤ g := by obtain ⟨v, l, h, _⟩ := h; exact h.2.2.2
theorem WrtX.ne {t : TypeId} {R : List Value} {w : World} {base g : Nat} {ob : Option Nat} {B : List Bool} (h : WrtX t R w base g ob B) : ob ≠ some g := by obtain ⟨v, l, h, _, rfl⟩ := h; exact h.2.2.1
theorem WrtX.ob {t : TypeId} {R : List Value} {w : World} {base g : Nat} {ob : Option Nat} {B : List Bool} (h : WrtX t R w base g ob B) : ∀ k, ob = some k → base ≤ k ∧ k < w.heap.size := by obtain ⟨v, l, h, _, rfl⟩ := h; exact h.2.1.lt
/-- A writer stays as it is where another block and another row are turned. -/
theorem WrtX.kept {t : TypeId} {R : List Value} {w w' : World} {base g g' : Nat} {ob ob' : Option Nat} {B : List Bool} (h : WrtX t R w base g ob B) (hM : Mod w w' g' ob') (h1 : g ≠ g') (h2 : ob' ≠ some g) (h3 : ob ≠ some g') (h4 : ob = none ∨ ob ≠ ob') : WrtX t R w' base g ob B := by
  obtain ⟨v, l, ⟨hW, hO, hne, hb⟩, hP, rfl⟩ := h
  exact ⟨v, l, ⟨hM.whole hW h1 h2, hM.own hO h3 h4, hne, hb⟩, hP, rfl⟩
theorem WrtX.ext {t : TypeId} {R : List Value} {w w' : World} {base g : Nat} {ob : Option Nat} {B : List Bool} (h : WrtX t R w base g ob B) (hE : Ext w w') : WrtX t R w' base g ob B := by
  obtain ⟨v, l, ⟨hW, hO, hne, hb⟩, hP, ho⟩ := h
  exact ⟨v, l, ⟨hW.ext hE, hO.ext hE, hne, hb⟩, hP, ho⟩

set_option maxHeartbeats 1000000 in
theorem put_any {t : TypeId} {R : List Value} {w : World} {base g : Nat} {ob : Option Nat} {B : List Bool} (h : WrtX t R w base g ob B) (x : Nat) (n : Int) (hfit : B.length ≤ 900000000) :
    Calls Try.prog 43 #[.pointer (some ⟨g, 0, none⟩), .int .u64 x, .int .i64 n] w (PutsX t R w base g ob (B ++ Bit.putBits x n) (Bit.putErr x n)) := by
  by_cases hbad : Bit.fits x n = false
  · have HE := hide (Bit.put_bad hbad)
    have HF := hide h
    by_cases h0 : n < 0
    · go_enter Try.func43, Try.ntmps43
      go_wp2
      go_ret
      refine ⟨ret_i64 HE.out.1.symm, ob, by rw [HE.out.2, List.append_nil]; exact HF.out, .inl rfl, Mod.refl _ _ _⟩
    · by_cases h1 : 64 < n
      · go_enter Try.func43, Try.ntmps43
        go_wp2
        go_ret
        refine ⟨ret_i64 HE.out.1.symm, ob, by rw [HE.out.2, List.append_nil]; exact HF.out, .inl rfl, Mod.refl _ _ _⟩
      · obtain ⟨k, rfl⟩ := Int.eq_ofNat_of_zero_le (show 0 ≤ n by omega)
        have hk : k ≤ 64 := by omega
        have hx : 2 ^ k ≤ x := by
          rcases Nat.lt_or_ge x (2 ^ k) with h | h
          · exfalso
            have : Bit.fits x (k : Int) = true := decide_eq_true ⟨by omega, by omega, by simpa using h⟩
            rw [this] at hbad; cases hbad
          · exact h
        have hx0 : ((x : Int) / 2 ^ k != 0) = true := by
          have h1 : 0 < x / 2 ^ k := Nat.div_pos hx (Nat.two_pow_pos k)
          have e : (x : Int) / 2 ^ k = ((x / 2 ^ k : Nat) : Int) := by simp only [Int.natCast_ediv, Int.natCast_pow]; rfl
          rw [e]; simp; omega
        clear hx hbad
        go_enter Try.func43, Try.ntmps43
        go_wp2
        go_ret
        refine ⟨ret_i64 HE.out.1.symm, ob, by rw [HE.out.2, List.append_nil]; exact HF.out, .inl rfl, Mod.refl _ _ _⟩
  · have hgood : Bit.fits x n = true := by simpa using hbad
    have HE := hide (Bit.put_good hgood)
    obtain ⟨h0, h1, hx⟩ := of_decide_eq_true hgood
    obtain ⟨k, rfl⟩ := Int.eq_ofNat_of_zero_le h0
    have hk : k ≤ 64 := by omega
    have hx' : x < 2 ^ k := by simpa using hx
    have hx0 : ((x : Int) / 2 ^ k != 0) = false := by
      have e : (x : Int) / 2 ^ k = ((x / 2 ^ k : Nat) : Int) := by simp only [Int.natCast_ediv, Int.natCast_pow]; rfl
      rw [e, Nat.div_eq_of_lt hx']; rfl
    obtain ⟨v, l, hR, hP, rfl⟩ := h
    have C := add_any x k hR hP rfl hx' hk (by omega)
    clear hx hx' hbad hgood
    go_enter Try.func43, Try.ntmps43
    go_wp2_with (go_at_call 54; refine C.mono ?_; rintro e w2 ⟨rfl, l2, hP2, v2, hR2, hN2, hM2⟩)
    go_ret
    refine ⟨ret_i64 HE.out.1.symm, v2.ownBlock, ⟨v2, l2, ?_, ?_, rfl⟩, hN2, hM2⟩
    · rw [HE.out.2, List.length_append, Bit.num_length]; exact hR2
    · rw [HE.out.2]; exact hP2

set_option maxHeartbeats 1000000 in
theorem unary_any {t : TypeId} {R : List Value} {w : World} {base g : Nat} {ob : Option Nat} {B : List Bool} (h : WrtX t R w base g ob B) (n : Int) (hfit : B.length ≤ 800000000) :
    Calls Try.prog 44 #[.pointer (some ⟨g, 0, none⟩), .int .i64 n] w (PutsX t R w base g ob (B ++ Bit.unaryBits n) (Bit.unaryErr n)) := by
  by_cases hbad : Bit.runs n = false
  · have HE := hide (Bit.unary_bad hbad)
    have HF := hide h
    by_cases h0 : n < 0
    · go_enter Try.func44, Try.ntmps44
      go_wp2
      go_ret
      refine ⟨ret_i64 HE.out.1.symm, ob, by rw [HE.out.2, List.append_nil]; exact HF.out, .inl rfl, Mod.refl _ _ _⟩
    · have h1 : 100000 < n := by
        have := of_decide_eq_false hbad
        omega
      go_enter Try.func44, Try.ntmps44
      go_wp2
      go_ret
      refine ⟨ret_i64 HE.out.1.symm, ob, by rw [HE.out.2, List.append_nil]; exact HF.out, .inl rfl, Mod.refl _ _ _⟩
  · have hgood : Bit.runs n = true := by simpa using hbad
    have HE := hide (Bit.unary_good hgood)
    obtain ⟨h0, h1⟩ := of_decide_eq_true hgood
    obtain ⟨k, rfl⟩ := Int.eq_ofNat_of_zero_le h0
    have hk : k ≤ 100000 := by omega
    obtain ⟨v, l, hR, hP, rfl⟩ := h
    have hpl := hP.1
    have C := widen_any k hR (by omega) (by omega)
    have hP1 := hide (hP.widen k)
    have hlen : (B ++ List.replicate k false).length = B.length + k := by simp
    have HLen := hide hlen
    clear hbad hgood hP hlen hpl
    go_enter Try.func44, Try.ntmps44
    go_wp2_with (go_at_call 55; refine C.mono ?_; rintro e w2 ⟨rfl, v2, hR2, hN2, hM2⟩)
    refine (add_any 1 1 hR2 hP1.out HLen.out (by omega) (by omega) (by omega)).mono ?_
    rintro e w3 ⟨rfl, l3, hP3, v3, hR3, hN3, hM3⟩
    go_wp2
    go_ret
    have hbits : B ++ Bit.unaryBits ((k : Nat) : Int) = B ++ List.replicate k false ++ Bit.num 1 1 := by
      rw [HE.out.2, Bit.num_one]; simp [Bit.unBits]
    refine ⟨ret_i64 HE.out.1.symm, v3.ownBlock, ⟨v3, l3, ?_, ?_, rfl⟩, hN2.trans hM2.size hN3, hM2.trans hM3 hN2⟩
    · rw [hbits, List.length_append, HLen.out]; exact hR3
    · rw [hbits]; exact hP3

theorem wbytes_any {t : TypeId} {R : List Value} {w : World} {base g : Nat} {ob : Option Nat} {B : List Bool} (h : WrtX t R w base g ob B) (hB : B.length ≤ 1000000000) :
    Calls Try.prog 45 #[.pointer (some ⟨g, 0, none⟩)] w fun e w' => ∃ l, Bit.Packs l B ∧ MadeB w l e w' := by
  obtain ⟨v, l, hR, hP, rfl⟩ := h
  obtain ⟨hW, hO, _, _⟩ := hR
  obtain ⟨A, c, rfl, hc, _, hb⟩ := hO.form
  have c0 : w.cell? ⟨g, 0, none⟩ = some (.slice A l.length c) := hW.at 0 (row_at0 ..)
  have hl := hP.1
  have C := slicesClone_any A l.length c l w hc (by omega) hb
  have HP := hide hP
  clear hl hP
  go_enter Try.func45, Try.ntmps45
  go_wp2_with (go_at_call 46; refine C.mono ?_; rintro e w2 ⟨v2, rfl, hown2, hE2⟩)
  go_ret
  exact ⟨l, HP.out, v2, rfl, hown2, hE2⟩
end Go.Proofs.Ytdpeidijaohgcaa

namespace Go.Proofs.Ytdpeidijaohgcaa
open Go.RowKit

theorem Bit.take_byte (X d k t : Nat) (c : UInt8) (hX : X < 2 ^ d) (hd : d + k ≤ 64) (hk : k ≤ 8) :
    bits .or .u64 (IntKind.u64.wrap ((X : Int) * 2 ^ k)) (bits .and .u64 (IntKind.u64.wrap (c.toNat : Int) / 2 ^ t) (IntKind.u64.wrap (IntKind.u64.wrap (2 ^ k) - 1))) = ((X * 2 ^ k + c.toNat / 2 ^ t % 2 ^ k : Nat) : Int) := by
  have hc := c.toNat_lt
  have hXk : X * 2 ^ k < 2 ^ 64 := by
    have h1 : X * 2 ^ k < 2 ^ d * 2 ^ k := Nat.mul_lt_mul_of_pos_right hX (Nat.two_pow_pos k)
    rw [← Nat.pow_add] at h1
    exact Nat.lt_of_lt_of_le h1 (Nat.pow_le_pow_right (by omega) hd)
  have hk2 : 2 ^ k ≤ 256 := Nat.pow_le_pow_right (n := 2) (by omega) hk
  have hk0 : 0 < 2 ^ k := Nat.two_pow_pos k
  have e1 : IntKind.u64.wrap ((X : Int) * 2 ^ k) = ((X * 2 ^ k : Nat) : Int) := by
    have : (X : Int) * 2 ^ k = ((X * 2 ^ k : Nat) : Int) := by simp only [Int.natCast_mul, Int.natCast_pow]; rfl
    rw [this, IntKind.wrap_u64]
    omega
  have e2 : IntKind.u64.wrap (c.toNat : Int) / 2 ^ t = ((c.toNat / 2 ^ t : Nat) : Int) := by
    have h1 : IntKind.u64.wrap (c.toNat : Int) = (c.toNat : Int) := by rw [IntKind.wrap_u64]; omega
    rw [h1]
    simp only [Int.natCast_ediv, Int.natCast_pow]; rfl
  have e3 : IntKind.u64.wrap (IntKind.u64.wrap (2 ^ k) - 1) = ((2 ^ k - 1 : Nat) : Int) := by
    have : (2 : Int) ^ k = ((2 ^ k : Nat) : Int) := by simp only [Int.natCast_pow]; rfl
    rw [this, IntKind.wrap_u64, IntKind.wrap_u64]
    omega
  have hdiv : c.toNat / 2 ^ t < 2 ^ 64 := Nat.lt_of_le_of_lt (Nat.div_le_self _ _) (by omega)
  rw [e1, e2, e3, u64_and_nat _ _ hdiv (by omega), Nat.and_two_pow_sub_one_eq_mod]
  have hm : c.toNat / 2 ^ t % 2 ^ k < 2 ^ k := Nat.mod_lt _ hk0
  rw [u64_or_nat _ _ hXk (by omega), Nat.mul_comm X, ← Nat.two_pow_add_eq_or_of_lt hm]

set_option maxHeartbeats 1000000 in
theorem number_any {w : World} {g : Nat} {A : Option Addr} {c : Nat} {l : List UInt8} (q n : Nat) (h0 : w.cell? ⟨g, 0, none⟩ = some (.slice A l.length c)) (hg : g < w.heap.size) (hb : Bytes w w.heap.size A l.length l)
    (hn : n ≤ 64) (hfit : q + n ≤ 8 * l.length) (hl : l.length ≤ 1000000000) :
    Calls Try.prog 67 #[.pointer (some ⟨g, 0, none⟩), .int .i64 q, .int .i64 n] w fun e w' => e = .returned (.int .u64 (Bit.val (fun i => Bit.at_ l (q + i)) n : Nat)) ∧ Qt w w' := by
  go_enter Try.func67, Try.ntmps67
  go_wp2
  go_loopw [1, 2, 7] (fun p m x wr => ∃ k : Nat, k ≤ n ∧ p = .int .i64 ((q + k : Nat) : Int) ∧ m = .int .i64 ((n - k : Nat) : Int) ∧ x = .int .u64 (Bit.val (fun i => Bit.at_ l (q + i)) k : Nat) ∧ Qt w wr) (fun _ m _ _ => (intOf m).toNat)
  case atStart => exact ⟨0, by omega, by simp, by simp, rfl, Qt.refl _⟩
  case round =>
    obtain ⟨d, hd, rfl, rfl, rfl, hE⟩ := hrel
    by_cases hlt : d < n
    · obtain ⟨hll, hb'⟩ := hb
      rcases hb' with h | ⟨b, off, rfl, hB, hcells⟩
      · omega
      have d0 := (hE.ext.cell hg).trans h0
      have hc := (hE.ext.cell hB).trans (hcells ((q + d) / 8) (by omega))
      clear hcells
      obtain ⟨m, hm⟩ : ∃ m, m = n - d := ⟨_, rfl⟩
      obtain ⟨s, hs⟩ : ∃ s, s = q + d := ⟨_, rfl⟩
      obtain ⟨k, hk⟩ : ∃ k, k = min m (8 - s % 8) := ⟨_, rfl⟩
      have hmin : (if (8 - (s : Int) % 8) < (m : Int) then (8 - (s : Int) % 8) else (m : Int)) = (k : Int) := by split <;> omega
      rw [← hm, ← hs]
      rw [← hs] at hc
      have hm64 : m ≤ 64 := by omega
      have hm0 : 0 < m := by omega
      have hkm : k ≤ m := by omega
      have hk8 : k ≤ 8 := by omega
      have hqL : (s : Int) / 8 < (l.length : Int) := by omega
      have HV := hide (Bit.val_add (fun i => Bit.at_ l (q + i)) d k)
      have HY := hide (Bit.val_byte l s k (by omega))
      have HT := hide (Bit.take_byte (Bit.val (fun i => Bit.at_ l (q + i)) d) d k (8 - s % 8 - k) (l.getD (s / 8) 0) (Bit.val_lt _ _) (by omega) (by omega))
      generalize Bit.val (fun i => Bit.at_ l (q + i)) d = X at *
      have Hm := hide hm
      have Hk := hide hk
      have Hs := hide hs
      clear hm hk hs
      go_wp2_with (refine wpList_min rfl (.tmp 15) (.tmp 16) rfl rfl rfl hmin ?_)
      go_quiet (fail)
      go_wp2
      go_roundw
      case rel =>
        have hm := Hm.out
        have hs := Hs.out
        refine ⟨d + k, by omega, ?_, ?_, ?_, hE.drewN _⟩
        · rw [show ((s : Int) + k) = ((q + (d + k) : Nat) : Int) by omega]
        · rw [show ((m : Int) - k) = ((n - (d + k) : Nat) : Int) by omega]
        · rw [HV.out, show (fun i => Bit.at_ l (q + (d + i))) = (fun i => Bit.at_ l (s + i)) by funext i; rw [hs, Nat.add_assoc], HY.out, ← HT.out, List.getD_eq_getElem?_getD]
      case measure => simp [intOf]; omega
    · obtain rfl : d = n := by omega
      go_wp2
      go_ret
      exact ⟨rfl, hE⟩
end Go.Proofs.Ytdpeidijaohgcaa

namespace Go.Proofs.Ytdpeidijaohgcaa
open Go.RowKit

namespace Bit
/-- How many bits 0 stand ahead of a byte's first 1. -/
def lz (r : Nat) : Nat := 7 - r.log2
/-- A byte shifted up by s. -/
def up (c : UInt8) (s : Nat) : UInt8 := UInt8.ofNat (c.toNat * 2 ^ s)
theorem up_bit (c : UInt8) (s i : Nat) (hi : i < 8) (h : s + i < 8) : (up c s).toNat.testBit (7 - i) = c.toNat.testBit (7 - (s + i)) := by
  unfold up
  rw [UInt8.toNat_ofNat', Nat.testBit_mod_two_pow, decide_eq_true (show 7 - i < 8 by omega), Bool.true_and, Nat.testBit_mul_two_pow, decide_eq_true (show s ≤ 7 - i by omega), Bool.true_and]
  congr 1
  omega
theorem up_bit_low (c : UInt8) (s i : Nat) (hi : i < 8) (h : 8 ≤ s + i) : (up c s).toNat.testBit (7 - i) = false := by
  unfold up
  rw [UInt8.toNat_ofNat', Nat.testBit_mod_two_pow, Nat.testBit_mul_two_pow, decide_eq_false (show ¬ s ≤ 7 - i by omega)]
  simp
theorem lz_facts (r : UInt8) (h : r.toNat ≠ 0) : lz r.toNat < 8 ∧ (∀ i, i < lz r.toNat → r.toNat.testBit (7 - i) = false) ∧ r.toNat.testBit (7 - lz r.toNat) = true := by
  have hr := r.toNat_lt
  have h8 : r.toNat.log2 < 8 := (Nat.log2_lt h).2 hr
  unfold lz
  refine ⟨by omega, fun i hi => ?_, ?_⟩
  · apply Nat.testBit_lt_two_pow
    have h1 : r.toNat.log2 < 7 - i := by omega
    exact (Nat.log2_lt h).1 h1
  · rw [show 7 - (7 - r.toNat.log2) = r.toNat.log2 by omega]
    exact Nat.testBit_log2 h
end Bit

theorem shl_byte (c : UInt8) (s : Nat) : ((c.toNat : Int) * 2 ^ s) % 256 = ((Bit.up c s).toNat : Int) := by
  unfold Bit.up
  rw [UInt8.toNat_ofNat']
  simp only [Int.natCast_emod, Int.natCast_mul, Int.natCast_pow]
  rfl

theorem bitLen_log2 : ∀ n : Fin 256, n.val ≠ 0 → Lib.bitLen n.val = n.val.log2 + 1 := by decide +kernel
set_option maxRecDepth 100000 in
theorem len8_int_any (x : Int) (w : World) (h0 : 0 ≤ x) (h1 : x ≤ 255) : Calls Try.prog 70 #[.int .u8 x] w fun e w' => e = .returned (.int .i64 (Lib.bitLen x.toNat)) ∧ w = w' := by
  rw [← Lib.len8_int x h0 h1]
  go_enter Try.func70, Try.ntmps70
  go_wp2
  go_ret
  exact ⟨congrArg (fun v => Ending.returned (.int .i64 v)) (by simp only [wrap64]), rfl⟩
theorem len8_any (r : UInt8) (w : World) (h : r.toNat ≠ 0) : Calls Try.prog 70 #[.int .u8 (r.toNat : Int)] w fun e w' => e = .returned (.int .i64 ((r.toNat.log2 + 1 : Nat) : Int)) ∧ w = w' := by
  have hr := r.toNat_lt
  have e := bitLen_log2 ⟨r.toNat, hr⟩ h
  have C := len8_int_any (r.toNat : Int) w (by omega) (by omega)
  simp only [Int.toNat_natCast] at C e
  rw [← e]
  exact C
theorem lz8_any (r : UInt8) (w : World) (h : r.toNat ≠ 0) : Calls Try.prog 69 #[.int .u8 (r.toNat : Int)] w fun e w' => e = .returned (.int .i64 (Bit.lz r.toNat : Nat)) ∧ w = w' := by
  have h8 : r.toNat.log2 < 8 := (Nat.log2_lt h).2 r.toNat_lt
  have C := fun w => len8_any r w h
  have HL := hide (show ((Bit.lz r.toNat : Nat) : Int) = 7 - (r.toNat.log2 : Int) by unfold Bit.lz; omega)
  generalize Bit.lz r.toNat = z at *
  generalize r.toNat.log2 = L at *
  go_enter Try.func69, Try.ntmps69
  go_wp2_with (go_at_call 70; refine (C _).mono ?_; rintro e w2 ⟨rfl, rfl⟩)
  go_ret
  refine ⟨?_, rfl⟩
  rw [HL.out]
  exact congrArg (fun v => Ending.returned (.int .i64 v)) (by omega)

set_option maxHeartbeats 1000000 in
theorem zerosFrom_any {w : World} {g : Nat} {A : Option Addr} {c : Nat} {l : List UInt8} (q : Nat) (h0 : w.cell? ⟨g, 0, none⟩ = some (.slice A l.length c)) (h1 : w.cell? ⟨g, 1, none⟩ = some (.int .i64 ((8 * l.length : Nat) : Int))) (hg : g < w.heap.size) (hb : Bytes w w.heap.size A l.length l)
    (hq : q ≤ 8 * l.length) (hl : l.length ≤ 1000000000) :
    Calls Try.prog 68 #[.pointer (some ⟨g, 0, none⟩), .int .i64 q] w fun e w' => e = .returned (.int .i64 (Bit.zeros (8 * l.length - q) (fun i => Bit.at_ l (q + i)) : Nat)) ∧ Qt w w' := by
  go_enter Try.func68, Try.ntmps68
  go_wp2
  go_loopw [5, 6, 7] (fun m _ _ wr => ∃ k : Nat, q + k ≤ 8 * l.length ∧ m = .int .i64 (k : Int) ∧ (∀ i, i < k → Bit.at_ l (q + i) = false) ∧ Qt w wr) (fun m _ _ _ => 8 * l.length - (intOf m).toNat)
  case atStart => exact ⟨0, by omega, rfl, fun i hi => by omega, Qt.refl _⟩
  case round =>
    obtain ⟨k, hk, rfl, hz, hE⟩ := hrel
    have d0 := (hE.ext.cell hg).trans h0
    have d1 := (hE.ext.cell hg).trans h1
    by_cases hlt : q + k < 8 * l.length
    · obtain ⟨hll, hb'⟩ := hb
      rcases hb' with h | ⟨b, off, rfl, hB, hcells⟩
      · omega
      have hc := (hE.ext.cell hB).trans (hcells ((q + k) / 8) (by omega))
      have hup := shl_byte (l.getD ((q + k) / 8) 0) ((q + k) % 8)
      have HU1 := hide (Bit.up_bit (l.getD ((q + k) / 8) 0) ((q + k) % 8))
      have HU2 := hide (Bit.up_bit_low (l.getD ((q + k) / 8) 0) ((q + k) % 8))
      have HC := hide (show ∀ i, (q + k) % 8 + i < 8 → Bit.at_ l (q + (k + i)) = (l.getD ((q + k) / 8) 0).toNat.testBit (7 - ((q + k) % 8 + i)) from fun i hi => by
        unfold Bit.at_
        rw [show (q + (k + i)) / 8 = (q + k) / 8 by omega, show (q + (k + i)) % 8 = (q + k) % 8 + i by omega])
      generalize Bit.up (l.getD ((q + k) / 8) 0) ((q + k) % 8) = r at *
      generalize l.getD ((q + k) / 8) 0 = cc at *
      clear hcells
      have hlt' : (q : Int) + k < 8 * (l.length : Int) := by omega
      have hi8 : ((q : Int) + k) / 8 < (l.length : Int) := by omega
      by_cases hr0 : r.toNat = 0
      · have ht : (((r.toNat : Int)) != 0) = false := by simp [hr0]
        have hall : ∀ i, i < 8 - (q + k) % 8 → Bit.at_ l (q + (k + i)) = false := fun i hi => by
          rw [HC.out i (by omega), ← HU1.out i (by omega) (by omega), hr0]
          simp
        have HA := hide hall
        have HZ := hide hz
        clear hall hz hr0
        go_wp2
        go_roundw
        case rel =>
          refine ⟨k + (8 - (q + k) % 8), by omega, ?_, fun i hi => ?_, hE⟩
          · rw [show ((k : Int) + (8 - ((q : Int) + k) % 8)) = ((k + (8 - (q + k) % 8) : Nat) : Int) by omega]
          · by_cases hik : i < k
            · exact HZ.out i hik
            · have := HA.out (i - k) (by omega)
              rwa [show k + (i - k) = i by omega] at this
        case measure => simp [intOf]; omega
      · have ht : (((r.toNat : Int)) != 0) = true := by simp; omega
        obtain ⟨z8, zf, zt⟩ := Bit.lz_facts r hr0
        have hz8 : (q + k) % 8 + Bit.lz r.toNat < 8 := by
          rcases Nat.lt_or_ge ((q + k) % 8 + Bit.lz r.toNat) 8 with h | h
          · exact h
          · rw [HU2.out _ z8 h] at zt; cases zt
        have HR := hide (Bit.zeros_eq (n := 8 * l.length - q) (z := k + Bit.lz r.toNat) (f := fun i => Bit.at_ l (q + i)) (by omega) (fun i hi => by
          by_cases hik : i < k
          · exact hz i hik
          · have h1 := HC.out (i - k) (by omega)
            rw [show k + (i - k) = i by omega] at h1
            show Bit.at_ l (q + i) = false
            rw [h1, ← HU1.out (i - k) (by omega) (by omega)]
            exact zf (i - k) (by omega)) (fun _ => by
          show Bit.at_ l (q + (k + Bit.lz r.toNat)) = true
          rw [HC.out _ hz8, ← HU1.out _ z8 hz8]
          exact zt))
        have hlz : Bit.lz r.toNat ≤ 8 := by omega
        have C := fun w => lz8_any r w hr0
        have HZ := hide hz
        clear zf zt hz
        generalize Bit.lz r.toNat = z at *
        go_wp2_with (go_at_call 69; refine (C _).mono ?_; rintro e w2 ⟨rfl, rfl⟩)
        go_ret
        refine ⟨?_, hE⟩
        rw [HR.out]
        exact congrArg (fun v => Ending.returned (.int .i64 v)) (by omega)
    · have HR := hide (Bit.zeros_eq (n := 8 * l.length - q) (z := k) (f := fun i => Bit.at_ l (q + i)) (by omega) hz (fun h => by omega))
      have hge : ¬ ((q : Int) + k < 8 * (l.length : Int)) := by omega
      clear hz
      go_wp2
      go_ret
      refine ⟨?_, hE⟩
      rw [HR.out]
      exact congrArg (fun v => Ending.returned (.int .i64 v)) (by omega)
end Go.Proofs.Ytdpeidijaohgcaa

namespace Go.Proofs.Ytdpeidijaohgcaa
open Go.RowKit

namespace Bit
def rest (l : List UInt8) (q : Nat) : Nat → Bool := fun i => at_ l (q + i)
def getErr (left : Nat) (n : Int) : Int := if 0 ≤ n ∧ n ≤ 64 then (if n ≤ left then 0 else 1) else 13
def getNum (l : List UInt8) (q : Nat) (n : Int) : Nat := if getErr (8 * l.length - q) n = 0 then val (rest l q) n.toNat else 0
def getTo (left q : Nat) (n : Int) : Nat := if getErr left n = 0 then q + n.toNat else q
def skipErr (left : Nat) (n : Int) : Int := if 0 ≤ n then (if n ≤ left then 0 else 1) else 13
def skipTo (left q : Nat) (n : Int) : Nat := if skipErr left n = 0 then q + n.toNat else q
def peekThere (left : Nat) (n : Int) : Nat := if 0 ≤ n ∧ n ≤ 64 then min n.toNat left else 0
def peekNum (l : List UInt8) (q : Nat) (n : Int) : Nat := if 0 ≤ n ∧ n ≤ 64 then val (rest l q) (min n.toNat (8 * l.length - q)) * 2 ^ (n.toNat - min n.toNat (8 * l.length - q)) else 0
def zs (l : List UInt8) (q : Nat) : Nat := zeros (8 * l.length - q) (rest l q)
def unErr (l : List UInt8) (q : Nat) : Int := if zs l q = 8 * l.length - q then 1 else 0
def unNum (l : List UInt8) (q : Nat) : Nat := if zs l q = 8 * l.length - q then 0 else zs l q
def unTo (l : List UInt8) (q : Nat) : Nat := if zs l q = 8 * l.length - q then q else q + zs l q + 1
def padErr (l : List UInt8) (q : Nat) : Int := if 8 * l.length - q < 8 ∧ zs l q = 8 * l.length - q then 0 else 2
end Bit

/-- Block g is a reader of the bytes l, of which q bits are taken. -/
def Rdr (w : World) (base g : Nat) (l : List UInt8) (q : Nat) : Prop :=
  ∃ A c, Whole w g 101 #[.slice A l.length c, .int .i64 ((8 * l.length : Nat) : Int), .int .i64 (q : Int)] ∧ Bytes w g A l.length l ∧ q ≤ 8 * l.length ∧ l.length ≤ 1000000 ∧ base ≤ g
theorem Rdr.lt {w : World} {base g q : Nat} {l : List UInt8} (h : Rdr w base g l q) : g < w.heap.size := by obtain ⟨A, c, hW, _⟩ := h; exact hW.lt
theorem Rdr.le {w : World} {base g q : Nat} {l : List UInt8} (h : Rdr w base g l q) : base ≤ g := by obtain ⟨A, c, _, _, _, _, h⟩ := h; exact h
theorem Rdr.below {w w' : World} {base g q B : Nat} {l : List UInt8} (h : Rdr w base g l q) (hE : Below B w w') (hg : g < B) : Rdr w' base g l q := by
  obtain ⟨A, c, hW, hb, r⟩ := h
  exact ⟨A, c, hW.below hE hg, hb.below hE (by omega), r⟩
theorem Rdr.ext {w w' : World} {base g q : Nat} {l : List UInt8} (h : Rdr w base g l q) (hE : Ext w w') : Rdr w' base g l q := h.below hE h.lt
theorem ret_nverr {k : IntKind} {a a' b b' : Int} (h : a = a') (h' : b = b') : Ending.returned (.tuple #[.int k a, .int .i64 b]) = .returned (.tuple #[.int k a', .int .i64 b']) := by rw [h, h']

theorem left_any {w : World} {base g q : Nat} {l : List UInt8} (h : Rdr w base g l q) :
    Calls Try.prog 63 #[.pointer (some ⟨g, 0, none⟩)] w fun e w' => e = .returned (.int .i64 ((8 * l.length - q : Nat) : Int)) ∧ Qt w w' := by
  obtain ⟨A, c, hW, hb, hq, hl, _⟩ := h
  have c1 : w.cell? ⟨g, 1, none⟩ = some (.int .i64 ((8 * l.length : Nat) : Int)) := hW.at 1 rfl
  have c2 : w.cell? ⟨g, 2, none⟩ = some (.int .i64 (q : Int)) := hW.at 2 rfl
  go_enter Try.func63, Try.ntmps63
  go_wp2
  go_quiet (fail)
  go_wp2
  go_ret
  exact ⟨ret_i64 (by omega), ⟨_, rfl⟩⟩

/-- What a reader's block is known to hold, in a later world. -/
theorem Rdr.number {w : World} {base g q : Nat} {l : List UInt8} (h : Rdr w base g l q) (k : Nat) (hk : k ≤ 64) (hs : k ≤ 8 * l.length - q) (m : Nat) :
    Calls Try.prog 67 #[.pointer (some ⟨g, 0, none⟩), .int .i64 q, .int .i64 k] (w.drewN m) fun e w' => e = .returned (.int .u64 (Bit.val (Bit.rest l q) k : Nat)) ∧ ∃ n, w' = w.drewN n := by
  obtain ⟨A, c, hW, hb, hq, hl, hbase⟩ := h
  have c0 : w.cell? ⟨g, 0, none⟩ = some (.slice A l.length c) := hW.at 0 rfl
  have hgl := hW.lt
  exact Calls.quiet_of (number_any (w := w.drewN m) q k (by simpa using c0) (by simpa using hgl) (hb.below (B := g) (C := w.heap.size) ((Ext.refl w).drewN m) (Nat.le_of_lt hgl) |>.mono (by simpa using Nat.le_of_lt hgl)) hk (by omega) (by omega))
theorem Rdr.zeros {w : World} {base g q : Nat} {l : List UInt8} (h : Rdr w base g l q) (m : Nat) :
    Calls Try.prog 68 #[.pointer (some ⟨g, 0, none⟩), .int .i64 q] (w.drewN m) fun e w' => e = .returned (.int .i64 (Bit.zs l q : Nat)) ∧ ∃ n, w' = w.drewN n := by
  obtain ⟨A, c, hW, hb, hq, hl, hbase⟩ := h
  have c0 : w.cell? ⟨g, 0, none⟩ = some (.slice A l.length c) := hW.at 0 rfl
  have c1 : w.cell? ⟨g, 1, none⟩ = some (.int .i64 ((8 * l.length : Nat) : Int)) := hW.at 1 rfl
  have hgl := hW.lt
  exact Calls.quiet_of (zerosFrom_any (w := w.drewN m) q (by simpa using c0) (by simpa using c1) (by simpa using hgl) (hb.below (B := g) (C := w.heap.size) ((Ext.refl w).drewN m) (Nat.le_of_lt hgl) |>.mono (by simpa using Nat.le_of_lt hgl)) hq (by omega))
theorem Rdr.leftQ {w : World} {base g q : Nat} {l : List UInt8} (h : Rdr w base g l q) (m : Nat) :
    Calls Try.prog 63 #[.pointer (some ⟨g, 0, none⟩)] (w.drewN m) fun e w' => e = .returned (.int .i64 ((8 * l.length - q : Nat) : Int)) ∧ ∃ n, w' = w.drewN n :=
  Calls.quiet_of (left_any (h.ext ((Ext.refl w).drewN m)))
theorem Rdr.cells {w : World} {base g q : Nat} {l : List UInt8} (h : Rdr w base g l q) : w.cell? ⟨g, 2, none⟩ = some (.int .i64 (q : Int)) ∧ w.frozen? ⟨g, 2, none⟩ = false ∧ q ≤ 8 * l.length ∧ l.length ≤ 1000000 := by
  obtain ⟨A, c, hW, hb, hq, hl, hbase⟩ := h
  exact ⟨hW.at 2 rfl, hW.frozen 2, hq, hl⟩
/-- The place is moved on. -/
theorem Rdr.moved {w : World} {base g q q' : Nat} {l : List UInt8} (h : Rdr w base g l q) (hq' : q' ≤ 8 * l.length) {x : Int} (hx : x = (q' : Int)) : Rdr (w.setCell ⟨g, 2, none⟩ (.int .i64 x)) base g l q' ∧ Mod w (w.setCell ⟨g, 2, none⟩ (.int .i64 x)) g none := by
  obtain ⟨A, c, hW, hb, hq, hl, hbase⟩ := h
  subst hx
  exact ⟨⟨A, c, hW.set 2 _, hb.below (Below.setCell (p := ⟨g, 2, none⟩) (Below.refl g w) (Nat.le_refl g) _) (Nat.le_refl g), hq', hl, hbase⟩, Mod.ofRow (grown_setCell w g 2 _)⟩

set_option maxHeartbeats 1000000 in
theorem get_any {w : World} {base g q : Nat} {l : List UInt8} (h : Rdr w base g l q) (n : Int) :
    Calls Try.prog 65 #[.pointer (some ⟨g, 0, none⟩), .int .i64 n] w fun e w' =>
      e = .returned (.tuple #[.int .u64 ((Bit.getNum l q n : Nat) : Int), .int .i64 (Bit.getErr (8 * l.length - q) n)]) ∧ Rdr w' base g l (Bit.getTo (8 * l.length - q) q n) ∧ Mod w w' g none := by
  by_cases hbad : 0 ≤ n ∧ n ≤ 64
  · obtain ⟨h0, h1⟩ := hbad
    obtain ⟨k, rfl⟩ := Int.eq_ofNat_of_zero_le h0
    have hk : k ≤ 64 := by omega
    by_cases hs : k ≤ 8 * l.length - q
    · have HE := hide (show Bit.getErr (8 * l.length - q) (k : Int) = 0 by unfold Bit.getErr; rw [if_pos ⟨h0, h1⟩, if_pos (by omega)])
      have HN := hide (show Bit.getNum l q (k : Int) = Bit.val (Bit.rest l q) k by unfold Bit.getNum; rw [HE.out]; simp)
      have HT := hide (show Bit.getTo (8 * l.length - q) q (k : Int) = q + k by unfold Bit.getTo; rw [HE.out]; simp)
      go_enter Try.func65, Try.ntmps65
      go_wp2_with fail
      refine (left_any h).mono ?_
      rintro e w2 ⟨rfl, hQ2⟩
      have hR := h.ext hQ2.ext
      obtain ⟨c2, f2, hq, hl⟩ := hR.cells
      have CN := hR.number k hk hs
      have HR := hide hR
      generalize Bit.val (Bit.rest l q) k = X at *
      clear h hR
      go_wp2_with fail
      go_quiet (first | (go_at_call 67; exact CN _))
      go_wp2
      go_ret2
      have hM := (HR.out.ext ((Ext.refl w2).drewN nq)).moved (q' := q + k) (x := (q : Int) + k) (by omega) (by omega)
      refine ⟨ret_nverr (by rw [HN.out]) HE.out.symm, by rw [HT.out]; exact hM.1, ?_⟩
      exact (Mod.ofExt (hQ2.drewN nq).ext).trans hM.2 (.inl rfl)
    · have HE := hide (show Bit.getErr (8 * l.length - q) (k : Int) = 1 by unfold Bit.getErr; rw [if_pos ⟨h0, h1⟩, if_neg (by omega)])
      have HN := hide (show Bit.getNum l q (k : Int) = 0 by unfold Bit.getNum; rw [HE.out]; simp)
      have HT := hide (show Bit.getTo (8 * l.length - q) q (k : Int) = q by unfold Bit.getTo; rw [HE.out]; simp)
      have HR := hide h
      have hs' : ¬ ((k : Int) ≤ ((8 * l.length - q : Nat) : Int)) := by omega
      go_enter Try.func65, Try.ntmps65
      go_wp2_with fail
      refine (left_any h).mono ?_
      rintro e w2 ⟨rfl, hQ2⟩
      go_wp2
      go_ret2
      exact ⟨ret_nverr (by rw [HN.out]; rfl) HE.out.symm, by rw [HT.out]; exact HR.out.ext hQ2.ext, Mod.ofExt hQ2.ext⟩
  · have HE := hide (show Bit.getErr (8 * l.length - q) n = 13 by unfold Bit.getErr; rw [if_neg hbad])
    have HN := hide (show Bit.getNum l q n = 0 by unfold Bit.getNum; rw [HE.out]; simp)
    have HT := hide (show Bit.getTo (8 * l.length - q) q n = q by unfold Bit.getTo; rw [HE.out]; simp)
    have HR := hide h
    by_cases h0 : n < 0
    · clear hbad
      go_enter Try.func65, Try.ntmps65
      go_wp2
      go_ret2
      exact ⟨ret_nverr (by rw [HN.out]; rfl) HE.out.symm, by rw [HT.out]; exact HR.out, Mod.refl _ _ _⟩
    · have h1 : 64 < n := by omega
      clear hbad
      go_enter Try.func65, Try.ntmps65
      go_wp2
      go_ret2
      exact ⟨ret_nverr (by rw [HN.out]; rfl) HE.out.symm, by rw [HT.out]; exact HR.out, Mod.refl _ _ _⟩

end Go.Proofs.Ytdpeidijaohgcaa

namespace Go.Proofs.Ytdpeidijaohgcaa
open Go.RowKit

theorem Bit.val_mul_lt (f : Nat → Bool) {a b : Nat} (h : a + b ≤ 64) : Bit.val f a * 2 ^ b < 18446744073709551616 := by
  have h1 : Bit.val f a * 2 ^ b < 2 ^ a * 2 ^ b := Nat.mul_lt_mul_of_pos_right (Bit.val_lt f a) (Nat.two_pow_pos b)
  rw [← Nat.pow_add] at h1
  exact Nat.lt_of_lt_of_le h1 (show 2 ^ (a + b) ≤ 2 ^ 64 from Nat.pow_le_pow_right (by omega) h)
theorem wrap_shl (X b : Nat) (h : X * 2 ^ b < 18446744073709551616) : IntKind.u64.wrap ((X : Int) * 2 ^ b) = ((X * 2 ^ b : Nat) : Int) := by
  have e : (X : Int) * 2 ^ b = ((X * 2 ^ b : Nat) : Int) := by simp only [Int.natCast_mul, Int.natCast_pow]; rfl
  rw [e, IntKind.wrap_u64]
  omega

set_option maxHeartbeats 1000000 in
theorem runary_any {w : World} {base g q : Nat} {l : List UInt8} (h : Rdr w base g l q) :
    Calls Try.prog 66 #[.pointer (some ⟨g, 0, none⟩)] w fun e w' =>
      e = .returned (.tuple #[.int .i64 ((Bit.unNum l q : Nat) : Int), .int .i64 (Bit.unErr l q)]) ∧ Rdr w' base g l (Bit.unTo l q) ∧ Mod w w' g none := by
  obtain ⟨c2, f2, hq, hl⟩ := h.cells
  have CN := h.zeros
  have hz : Bit.zs l q ≤ 8 * l.length - q := Bit.zeros_le _ _
  by_cases he : Bit.zs l q = 8 * l.length - q
  · have HN := hide (show Bit.unNum l q = 0 by unfold Bit.unNum; rw [if_pos he])
    have HE := hide (show Bit.unErr l q = 1 by unfold Bit.unErr; rw [if_pos he])
    have HT := hide (show Bit.unTo l q = q by unfold Bit.unTo; rw [if_pos he])
    have HR := hide h
    rw [he] at CN
    have CL := fun m => (left_any (h.ext ((Ext.refl w).drewN m)))
    clear he hz h
    have ht : (((8 * l.length - q : Nat) : Int) == ((8 * l.length - q : Nat) : Int)) = true := by simp
    generalize 8 * l.length - q = L at *
    go_enter Try.func66, Try.ntmps66
    go_wp2_with fail
    go_quiet (first | (go_at_call 68; exact CN _))
    go_wp2_with fail
    refine (CL _).mono ?_
    rintro e w3 ⟨rfl, hQ3⟩
    have hQ : Qt w w3 := Qt.trans ⟨_, rfl⟩ hQ3
    go_wp2
    go_ret2
    exact ⟨ret_nverr (by rw [HN.out]; rfl) HE.out.symm, by rw [HT.out]; exact HR.out.ext hQ.ext, Mod.ofExt hQ.ext⟩
  · have HN := hide (show Bit.unNum l q = Bit.zs l q by unfold Bit.unNum; rw [if_neg he])
    have HE := hide (show Bit.unErr l q = 0 by unfold Bit.unErr; rw [if_neg he])
    have HT := hide (show Bit.unTo l q = q + Bit.zs l q + 1 by unfold Bit.unTo; rw [if_neg he])
    have HR := hide h
    have CL := fun m => (left_any (h.ext ((Ext.refl w).drewN m)))
    have ht : (((Bit.zs l q : Nat) : Int) == ((8 * l.length - q : Nat) : Int)) = false := by simp; omega
    have HS := hide (show q + Bit.zs l q + 1 ≤ 8 * l.length by omega)
    have hsm : Bit.zs l q ≤ 8000000 := by omega
    have hqm : q ≤ 8000000 := by omega
    clear he hz h
    generalize Bit.zs l q = Z at *
    generalize 8 * l.length - q = L at *
    go_enter Try.func66, Try.ntmps66
    go_wp2_with fail
    go_quiet (first | (go_at_call 68; exact CN _))
    go_wp2_with fail
    refine (CL _).mono ?_
    rintro e w3 ⟨rfl, hQ3⟩
    have hQ : Qt w w3 := Qt.trans ⟨_, rfl⟩ hQ3
    have hR3 := HR.out.ext hQ.ext
    obtain ⟨c3, f3, _, _⟩ := hR3.cells
    have HR3 := hide hR3
    clear hR3
    go_wp2
    go_ret2
    have hM := HR3.out.moved (q' := q + Z + 1) (x := (q : Int) + ((Z : Int) + 1)) HS.out (by omega)
    exact ⟨ret_nverr (by rw [HN.out]) HE.out.symm, by rw [HT.out]; exact hM.1, (Mod.ofExt hQ.ext).trans hM.2 (.inl rfl)⟩

set_option maxHeartbeats 1000000 in
theorem rowOf_any (A : Option Addr) (n c : Nat) (l : List UInt8) (w : World) (hc : n ≤ c) (hn : n ≤ 1000000) (hb : Bytes w w.heap.size A n l) :
    Calls Try.prog 64 #[.slice A n c] w fun e w' => ∃ A' c', e = .returned (.agg #[.slice A' l.length c', .int .i64 ((8 * l.length : Nat) : Int)]) ∧ Bytes w' w'.heap.size A' l.length l ∧ Ext w w' := by
  have hll := hb.1
  subst hll
  have hE0 := extNew w (.cells #[.slice none 0 0, .int .i64 0] 73)
  have hW0 := Whole.new w 73 #[.slice none 0 0, .int .i64 0]
  have hi1 : (Try.prog.info? 73).map (·.size) = some 2 := by kernel_rfl
  go_enter Try.func64, Try.ntmps64
  go_wp2_with (first
    | (go_at_call 46; refine (slicesClone_any A l.length c l _ hc (by omega) (hE0.bytes hb)).mono ?_; rintro e w2 ⟨v2, rfl, hown2, hE2⟩; obtain ⟨A2, c2, hv2, _, _, hb2⟩ := hown2.form; subst hv2; have hW2 := hW0.ext hE2; have hne : (Value.slice A2 l.length c2).ownBlock ≠ some w.heap.size := fun e => by have := (hown2.lt _ e).1; simp at this; omega)
    | (refine wpList_storeW rfl 73 (.tmp 2) (.tmp 8) rfl rfl rfl hW2 rfl hi1 (all_oneCell_toArray (by simp [Value.oneCell'])) ?_; intro w3 hW3 hG3 _))
  refine bodyPost_ret (results_cell_row rfl _ _ _ _ _ _ _ rfl hW3 Try.underlying73 rfl hi1) rfl ⟨A2, c2, ?_, ?_, ?_⟩
  · have e : (8 : Int) * (l.length : Int) = ((8 * l.length : Nat) : Int) := by omega
    rw [← e]
  · obtain ⟨A3, c3, hv, _, _, hb3⟩ := ((Mod.ofRow (ob := none) hG3).own hown2 hne (by simp [Classical.em])).form
    injection hv with e1 _ _
    rw [e1]; exact hb3
  · exact Below.grown (hE0.trans hE2) hG3 (hE0.trans hE2).le (fun k hk => by cases hk; exact Nat.le_refl _)
end Go.Proofs.Ytdpeidijaohgcaa

namespace Go.Proofs.Ytdpeidijaohgcaa
open Go.ChangeShapes Go.WideShapes Go.ChangeAt Go.WideMaps Go.WideElems Go.RowKit

theorem own : ownKnob Try.prog.godebug = none := by kernel_rfl
theorem laidOut : laidOutB Try.prog = true := by kernel_rfl

theorem open_bytes_cs {H : Type} {enc : TypeId × Value → H} {W : World} {fuel : Nat} {cs : List Value} {x : DataW H × List MemPlace} (hf : DataW.trod enc Try.prog W 0 (fun _ => true) true fuel 24 cs = some x) :
    ∃ a n c, ∃ l : List UInt8, cs = [.slice a n c] ∧ n ≤ c ∧ c ≤ maxLen ∧ Bytes W W.heap.size a n l := by
  rcases open_ints Try.underlying24 Try.underlying5 (by kernel_rfl) hf with ⟨hcs, _⟩ | ⟨x, n, c, zs, hcs, _, hl, hm, hz, _, hcell, hwz⟩
  · exact ⟨none, 0, 0, [], hcs, by omega, by unfold maxLen; omega, Bytes.none _ _ _⟩
  · have hz' : zs.length = c := by simpa using hz
    refine ⟨some x, n, c, (zs.take n).map fun z => UInt8.ofNat z.toNat, hcs, hl, hm, by simp; omega, ?_⟩
    rcases Nat.eq_zero_or_pos n with h0 | h0
    · exact .inl h0
    obtain ⟨b, off, spot⟩ := x
    have hc0 := hcell 0 (by omega)
    have hspot : spot = none := by simpa [Addr.add] using World.cell?_spot hc0
    subst hspot
    refine .inr ⟨b, off, rfl, by simpa [Addr.add] using World.block_lt_of_cell? W _ hc0, fun i hi => ?_⟩
    have h1 := hcell i (by omega)
    have hr : 0 ≤ zs.getD i 0 ∧ zs.getD i 0 ≤ 255 := by
      have := range_u8 hwz i
      rwa [List.getD_eq_getElem?_getD]
    have e : ((((zs.take n).map fun z => UInt8.ofNat z.toNat).getD i 0).toNat : Int) = zs.getD i 0 := by
      have hi' : i < zs.length := by omega
      simp only [List.getD_eq_getElem?_getD, List.getElem?_map, List.getElem?_take, if_pos hi, List.getElem?_eq_getElem hi', Option.map_some, Option.getD_some] at hr ⊢
      rw [UInt8.toNat_ofNat']
      omega
    rw [e]
    have hadd : (⟨b, off, none⟩ : Addr).add i = ⟨b, off + i, none⟩ := by unfold Addr.add; split <;> simp_all
    rwa [hadd] at h1
/-- A slice of bytes that came in: what it reads as. -/
theorem open_bytes {H : Type} {enc : TypeId × Value → H} {W : World} {a : Option Addr} {n c : Nat} {d : DataW H} {p : List MemPlace} (h : DataW.Trod enc Try.prog W 0 (fun _ => true) true 24 (.slice a n c) d p) :
    ∃ l : List UInt8, n ≤ c ∧ c ≤ maxLen ∧ Bytes W W.heap.size a n l := by
  obtain ⟨fuel, hf⟩ := h
  obtain ⟨a', n', c', l, hcs, h1, h2, h3⟩ := open_bytes_cs hf
  simp [Value.cells] at hcs
  obtain ⟨rfl, rfl, rfl⟩ := hcs
  exact ⟨l, h1, h2, h3⟩
end Go.Proofs.Ytdpeidijaohgcaa

namespace Go.Proofs.Ytdpeidijaohgcaa
open Go.ChangeShapes Go.WideShapes Go.ChangeAt Go.WideMaps Go.WideElems Go.RowKit

theorem addr_add' (b off i : Nat) : (⟨b, off, none⟩ : Addr).add i = ⟨b, off + i, none⟩ := by unfold Addr.add; split <;> simp_all
/-- A call, as it reads. -/
structure OpV where
  k : Nat
  x : Nat
  n : Int
instance : Inhabited OpV := ⟨⟨0, 0, 0⟩⟩
/-- The call lies in block b from o on. -/
def OpAt (w : World) (b o : Nat) (v : OpV) : Prop :=
  w.cell? ⟨b, o, none⟩ = some (.int .u8 (v.k : Int)) ∧ w.cell? ⟨b, o + 1, none⟩ = some (.int .u64 (v.x : Int)) ∧ w.cell? ⟨b, o + 2, none⟩ = some (.int .i64 v.n)
def OpV.ok (v : OpV) : Prop := v.k ≤ 255 ∧ v.x ≤ 18446744073709551615 ∧ -9223372036854775808 ≤ v.n ∧ v.n ≤ 9223372036854775807
def OpsAt (w : World) (B : Nat) (A : Option Addr) (n : Nat) (L : List OpV) : Prop :=
  L.length = n ∧ (n = 0 ∨ ∃ b off, A = some ⟨b, off, none⟩ ∧ b < B ∧ ∀ i, i < n → OpAt w b (off + i * 3) (L.getD i default) ∧ (L.getD i default).ok)
theorem OpAt.below {w w' : World} {b o B : Nat} {v : OpV} (h : OpAt w b o v) (hb : Below B w w') (hB : b < B) : OpAt w' b o v :=
  ⟨(hb.cell (p := ⟨b, o, none⟩) hB).trans h.1, (hb.cell (p := ⟨b, o + 1, none⟩) hB).trans h.2.1, (hb.cell (p := ⟨b, o + 2, none⟩) hB).trans h.2.2⟩
theorem OpsAt.below {w w' : World} {B C n : Nat} {A : Option Addr} {L : List OpV} (h : OpsAt w B A n L) (hb : Below C w w') (hC : B ≤ C) : OpsAt w' B A n L := by
  refine ⟨h.1, ?_⟩
  rcases h.2 with h0 | ⟨b, off, hA, hB, hc⟩
  · exact .inl h0
  · exact .inr ⟨b, off, hA, hB, fun i hi => ⟨(hc i hi).1.below hb (by omega), (hc i hi).2⟩⟩

end Go.Proofs.Ytdpeidijaohgcaa

namespace Go.Proofs.Ytdpeidijaohgcaa
open Go.RowKit

namespace Bit
/-- The bits that a call puts. -/
def enc (o : OpV) : List Bool := if o.k % 2 = 0 then putBits o.x o.n else unaryBits o.n
def flat (L : List OpV) : List Bool := L.flatMap enc
/-- Its call was answered OK. -/
def good (o : OpV) : Prop := (o.k % 2 = 0 ∧ fits o.x o.n = true) ∨ (o.k % 2 = 1 ∧ runs o.n = true)
theorem flat_nil : flat [] = [] := rfl
theorem flat_snoc (L : List OpV) (o : OpV) : flat (L ++ [o]) = flat L ++ enc o := by simp [flat]
theorem flat_take (L : List OpV) (k : Nat) (h : k < L.length) : flat (L.take (k + 1)) = flat (L.take k) ++ enc (L.getD k default) := by
  rw [List.take_succ_eq_append_getElem h, flat_snoc, List.getD_eq_getElem?_getD, List.getElem?_eq_getElem h]
  rfl
theorem flat_split (L : List OpV) (k : Nat) (h : k < L.length) : flat L = flat (L.take k) ++ enc (L.getD k default) ++ flat (L.drop (k + 1)) := by
  rw [← flat_take L k h]
  unfold flat
  rw [← List.flatMap_append, List.take_append_drop]
theorem Packs.bit {l : List UInt8} {P E Q : List Bool} (h : Packs l (P ++ E ++ Q)) {i : Nat} (hi : i < E.length) : at_ l (P.length + i) = E.getD i false := by
  have hl := h.1
  simp only [List.length_append] at hl
  rw [h.2 _ (by omega), List.append_assoc, getD_app_right _ _ _ (by omega), Nat.add_sub_cancel_left, getD_app_left _ _ _ hi]
theorem Packs.room {l : List UInt8} {P E Q : List Bool} (h : Packs l (P ++ E ++ Q)) : P.length + E.length ≤ 8 * l.length := by
  have hl := h.1
  simp only [List.length_append] at hl
  omega
theorem get_back {l : List UInt8} {P Q : List Bool} {x k : Nat} (h : Packs l (P ++ num x k ++ Q)) (hk : k ≤ 64) (hx : x < 2 ^ k) :
    getErr (8 * l.length - P.length) (k : Int) = 0 ∧ getNum l P.length (k : Int) = x ∧ getTo (8 * l.length - P.length) P.length (k : Int) = P.length + k := by
  have hr := h.room
  rw [num_length] at hr
  have h1 : getErr (8 * l.length - P.length) (k : Int) = 0 := by unfold getErr; rw [if_pos ⟨by omega, by omega⟩, if_pos (by omega)]
  refine ⟨h1, ?_, by unfold getTo; rw [h1]; simp⟩
  unfold getNum
  rw [h1, if_pos rfl, Int.toNat_natCast]
  have : val (rest l P.length) k = val (fun i => x.testBit (k - 1 - i)) k := val_congr k fun i hi => by
    unfold rest
    rw [h.bit (by rw [num_length]; exact hi), num_getD _ _ _ hi]
  rw [this, val_num hx]
theorem unBits_getD (n i : Nat) (h : i ≤ n) : (unBits n).getD i false = decide (i = n) := by
  unfold unBits
  rcases Nat.lt_or_ge i n with hi | hi
  · rw [getD_app_left _ _ _ (by simpa using hi), decide_eq_false (by omega), List.getD_eq_getElem?_getD, List.getElem?_replicate, if_pos hi]; rfl
  · obtain rfl : i = n := by omega
    rw [getD_app_right _ _ _ (by simp)]; simp
theorem un_back {l : List UInt8} {P Q : List Bool} {n : Nat} (h : Packs l (P ++ unBits n ++ Q)) : unErr l P.length = 0 ∧ unNum l P.length = n ∧ unTo l P.length = P.length + n + 1 := by
  have hlen : (unBits n).length = n + 1 := by simp [unBits]
  have hr := h.room
  rw [hlen] at hr
  have hz : zs l P.length = n := zeros_eq (by omega) (fun i hi => by
    unfold rest
    rw [h.bit (by omega), unBits_getD n i (by omega)]
    exact decide_eq_false (by omega)) (fun _ => by
    unfold rest
    rw [h.bit (by omega), unBits_getD n n (Nat.le_refl _)]
    exact decide_eq_true rfl)
  have hne : zs l P.length ≠ 8 * l.length - P.length := by omega
  refine ⟨by unfold unErr; rw [if_neg hne], by unfold unNum; rw [if_neg hne, hz], by unfold unTo; rw [if_neg hne, hz]⟩
theorem pad_back {l : List UInt8} {B : List Bool} (h : Packs l B) : padErr l B.length = 0 ∧ 8 * l.length - B.length < 8 := by
  have hl := h.1
  have h8 : 8 * l.length - B.length < 8 := by omega
  have hz : zs l B.length = 8 * l.length - B.length := zeros_eq (Nat.le_refl _) (fun i hi => by
    unfold rest
    rw [h.2 _ (by omega), getD_far _ _ (by omega)]) (fun h => by omega)
  exact ⟨by unfold padErr; rw [if_pos ⟨h8, hz⟩], h8⟩
theorem enc_le (o : OpV) (h : o.k % 2 = 1 → o.n ≤ 300) : (enc o).length ≤ 301 := by
  unfold enc
  split
  · exact Nat.le_trans (putBits_le _ _) (by omega)
  · have hn := h (by omega)
    unfold unaryBits
    split
    · rename_i hr
      have := of_decide_eq_true hr
      simp [unBits]; omega
    · simp
end Bit

def opCells (o : OpV) : List Value := [.int .u8 (o.k : Int), .int .u64 (o.x : Int), .int .i64 o.n]
theorem opCells_get : ∀ (L : List OpV) (i j : Nat), i < L.length → j < 3 → (L.flatMap opCells)[i * 3 + j]? = (opCells (L.getD i default))[j]?
  | o :: L, 0, j, _, hj => by
    rw [List.flatMap_cons, Nat.zero_mul, Nat.zero_add, List.getElem?_append_left (by simp [opCells]; omega)]
    rfl
  | o :: L, i + 1, j, h, hj => by
    rw [List.flatMap_cons, List.getElem?_append_right (by simp [opCells]; omega)]
    have := opCells_get L i j (by simpa using h) hj
    rw [show (i + 1) * 3 + j - (opCells o).length = i * 3 + j by simp [opCells]; omega, this]
    simp
section
variable {o : Oper} {a : Act} {K : Act → World → Prop} {Q : Exit → Act → World → Prop} {w : World} {base : Nat} {v : Value} {L : List OpV}
end
end Go.Proofs.Ytdpeidijaohgcaa

namespace Go.Proofs.Ytdpeidijaohgcaa

theorem Bit.val_testBit (f : Nat → Bool) : ∀ n j, j < n → (Bit.val f n).testBit (n - 1 - j) = f j
  | 0, j, h => by omega
  | n + 1, j, h => by
    have hb : (f n).toNat ≤ 1 := by cases f n <;> simp
    rw [Bit.val]
    by_cases e : j = n
    · subst e
      rw [show j + 1 - 1 - j = 0 by omega, Nat.testBit_zero]
      cases hf : f j <;> simp <;> omega
    · rw [show n + 1 - 1 - j = (n - 1 - j) + 1 by omega, Nat.testBit_succ, show (2 * Bit.val f n + (f n).toNat) / 2 = Bit.val f n by omega]
      exact Bit.val_testBit f n j (by omega)
/-- Bits as bytes. -/
def Bit.pack (B : List Bool) : List UInt8 := (List.range ((B.length + 7) / 8)).map fun i => UInt8.ofNat (Bit.val (fun j => B.getD (8 * i + j) false) 8)
theorem Bit.packs_pack (B : List Bool) : Bit.Packs (Bit.pack B) B := by
  refine ⟨by simp [Bit.pack], fun i hi => ?_⟩
  have hl : (Bit.pack B).length = (B.length + 7) / 8 := by simp [Bit.pack]
  unfold Bit.at_
  have hd : i / 8 < (B.length + 7) / 8 := by omega
  have e : (Bit.pack B).getD (i / 8) 0 = UInt8.ofNat (Bit.val (fun j => B.getD (8 * (i / 8) + j) false) 8) := by
    unfold Bit.pack
    rw [List.getD_eq_getElem?_getD, List.getElem?_map, List.getElem?_range hd]
    rfl
  have hv := Bit.val_lt (fun j => B.getD (8 * (i / 8) + j) false) 8
  rw [e, UInt8.toNat_ofNat', Nat.mod_eq_of_lt hv, show 7 - i % 8 = 8 - 1 - i % 8 by omega, Bit.val_testBit _ 8 (i % 8) (by omega)]
  congr 1
  omega
theorem Bit.pack_len (B : List Bool) : (Bit.pack B).length = (B.length + 7) / 8 := by simp [Bit.pack]
theorem Bit.Packs.is {l : List UInt8} {B : List Bool} (h : Bit.Packs l B) : l = Bit.pack B := h.uniq (Bit.packs_pack B)
end Go.Proofs.Ytdpeidijaohgcaa

