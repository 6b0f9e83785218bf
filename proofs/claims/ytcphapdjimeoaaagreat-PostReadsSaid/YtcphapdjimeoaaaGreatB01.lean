/- Small facts that all proofs of a seat use: later worlds, slices of bytes, what a cut of a slice is. Slices of bytes that a call has made itself, and what append makes of them. A slice of numbers that came in. Lists of numbers of the call's own. Numbers as bytes, seven bits a byte: plain mathematics. Records as bytes, groups, columns, as plain mathematics. Words of texts, as plain mathematics: letters, words, terms; texts in the order of their bytes. Rising texts in buckets, as plain mathematics: what is written, what is read. What was written is read: plain mathematics of chapter 16. What is read is as it is written: plain mathematics of chapter 16. Bits of bytes, numbers of bits, runs of bits 0: plain mathematics. Are two rows of bytes the same? Bytes as strings. Own lists of numbers: their form; append of one number, the world told by what there was. Texts found, and those that begin with a text: plain mathematics of chapter 16. Writing a dictionary step by step, as plain mathematics: bucket by bucket, text by text. The contract of the document's Same, of bytes as strings. What is read is as it is written: plain mathematics of chapter 17. -/
import Derived.Test.YtcphapdjimeoaaaGreatRows
import Derived.WalkKit
import Derived.WalkSpells
import Derived.WalkLawsBesides
import Derived.Maps.AppendAt
import Derived.Laws.OwnMore
namespace Go.Proofs.YtcphapdjimeoaaaGreat
open Go.RowKit

theorem hide {p : Prop} (h : p) : Hid p := h
theorem ret_bool {a b : Bool} (h : a = b) : Ending.returned (.bool a) = .returned (.bool b) := by rw [h]
theorem ret_u32 {a b : Int} (h : a = b) : Ending.returned (.int .u32 a) = .returned (.int .u32 b) := by rw [h]

/-- Everything that was there at w is there at W as it was. -/
def Ext (w W : World) : Prop := Below w.heap.size w W
theorem Ext.refl (w : World) : Ext w w := Below.refl _ _
theorem Ext.trans {a b c : World} (h : Ext a b) (k : Ext b c) : Ext a c := Below.trans h (Below.mono k h.size)
theorem Ext.drew {a b : World} (h : Ext a b) : Ext a b.drew := Below.drew h
theorem Ext.drewN {a b : World} (h : Ext a b) (n : Nat) : Ext a (b.drewN n) := ⟨h.os, h.tape, h.output, h.size, h.block⟩
theorem Ext.alloc {a b : World} (h : Ext a b) (o : Obj) : Ext a (b.alloc o) := Below.alloc h h.size o
theorem Ext.grown' {a b c : World} (h : Ext a b) (hg : b.grownBy c none) : Ext a c := Below.grown h hg h.size (fun k hk => by cases hk)
theorem Ext.setCell {a b : World} (h : Ext a b) {g i : Nat} (hg : a.heap.size ≤ g) (u : Value) : Ext a (b.setCell ⟨g, i, none⟩ u) := Below.setCell (p := ⟨g, i, none⟩) h hg u
theorem Ext.storeNew {a b c : World} (h : Ext a b) {o : Obj} (hG : (b.alloc o).grownBy c (some b.heap.size)) : Ext a c := Below.grown (h.alloc o) hG (h.alloc o).size (fun k hk => by cases hk; exact h.size)
theorem Ext.cell {a b : World} (h : Ext a b) {g i : Nat} (hp : g < a.heap.size) : b.cell? ⟨g, i, none⟩ = a.cell? ⟨g, i, none⟩ := Below.cell (p := ⟨g, i, none⟩) h hp
theorem Ext.le {a b : World} (h : Ext a b) : a.heap.size ≤ b.heap.size := h.size
theorem cellNew (w : World) (cs : Array Value) (t : TypeId) (fr : Nat × Nat) (i : Nat) : (w.alloc (.cells cs t fr)).cell? ⟨w.heap.size, i, none⟩ = cs[i]? := World.cell?_alloc_mark w cs t fr i
theorem belowNew (w : World) (o : Obj) : Below w.heap.size w (w.alloc o) := (Below.refl _ _).alloc (Nat.le_refl _) o
theorem extNew (w : World) (o : Obj) : Ext w (w.alloc o) := belowNew w o

/-- A slice that reads as these bytes, its memory below block B. -/
def Bytes (w : World) (B : Nat) (A : Option Addr) (n : Nat) (l : List UInt8) : Prop :=
  l.length = n ∧ (n = 0 ∨ ∃ b off, A = some ⟨b, off, none⟩ ∧ b < B ∧ ∀ i, i < n → w.cell? ⟨b, off + i, none⟩ = some (.int .u8 ((l.getD i 0).toNat : Int)))
theorem Bytes.below {w w' : World} {B C : Nat} {A : Option Addr} {n : Nat} {l : List UInt8} (h : Bytes w B A n l) (hb : Below C w w') (hC : B ≤ C) : Bytes w' B A n l := by
  refine ⟨h.1, ?_⟩
  rcases h.2 with h0 | ⟨b, off, hA, hB, hc⟩
  · exact .inl h0
  · exact .inr ⟨b, off, hA, hB, fun i hi => by rw [hb.cell (p := ⟨b, off + i, none⟩) (Nat.lt_of_lt_of_le hB hC)]; exact hc i hi⟩
theorem Bytes.mono {w : World} {B C : Nat} {A : Option Addr} {n : Nat} {l : List UInt8} (h : Bytes w B A n l) (hC : B ≤ C) : Bytes w C A n l := by
  refine ⟨h.1, ?_⟩
  rcases h.2 with h0 | ⟨b, off, hA, hB, hc⟩
  · exact .inl h0
  · exact .inr ⟨b, off, hA, Nat.lt_of_lt_of_le hB hC, hc⟩
theorem Ext.bytes {a b : World} (h : Ext a b) {A : Option Addr} {n : Nat} {l : List UInt8} (hb : Bytes a a.heap.size A n l) : Bytes b b.heap.size A n l := (hb.below h (Nat.le_refl _)).mono h.size
theorem Bytes.take {w : World} {B : Nat} {A : Option Addr} {n : Nat} {l : List UInt8} (h : Bytes w B A n l) {k : Nat} (hk : k ≤ n) : Bytes w B A k (l.take k) := by
  refine ⟨by rw [List.length_take, h.1]; omega, ?_⟩
  rcases h.2 with h0 | ⟨b, off, hA, hB, hc⟩
  · exact .inl (by omega)
  · refine .inr ⟨b, off, hA, hB, fun i hi => ?_⟩
    rw [hc i (by omega)]
    simp [List.getD_eq_getElem?_getD, hi]
theorem Bytes.none (w : World) (B : Nat) (A : Option Addr) : Bytes w B A 0 [] := ⟨rfl, .inl rfl⟩

/-- Where a slice begins that is cut at k: at the end of its room it stays where it was. -/
def cutAt (A : Option Addr) (c k : Nat) : Option Addr := if c = k then A else A.map (·.add k)
theorem Bytes.drop {w : World} {B : Nat} {A : Option Addr} {n : Nat} {l : List UInt8} (h : Bytes w B A n l) {k c : Nat} (hk : k ≤ n) (hc : n ≤ c) : Bytes w B (cutAt A c k) (n - k) (l.drop k) := by
  refine ⟨by rw [List.length_drop, h.1], ?_⟩
  by_cases hkn : k = n
  · exact .inl (by omega)
  rcases h.2 with h0 | ⟨b, off, rfl, hB, hcell⟩
  · exact .inl (by omega)
  · refine .inr ⟨b, off + k, ?_, hB, fun i hi => ?_⟩
    · simp [cutAt, show ¬ c = k by omega, Addr.add]
    · rw [Nat.add_assoc, hcell (k + i) (by omega)]
      simp [List.getD_eq_getElem?_getD]
/-- New bytes. -/
def byteCells (l : List UInt8) : Array Value := (l.map fun c => Value.int .u8 (c.toNat : Int)).toArray
theorem bytesNew (w : World) (l : List UInt8) (cs : Array Value) (t : TypeId) (fr : Nat × Nat) (h : cs = byteCells l) (n : Nat) (hn : l.length = n) :
    Bytes (w.alloc (.cells cs t fr)) (w.alloc (.cells cs t fr)).heap.size (some ⟨w.heap.size, 0, none⟩) n l := by
  subst h
  subst hn
  refine ⟨rfl, .inr ⟨w.heap.size, 0, rfl, by simp, fun i hi => ?_⟩⟩
  rw [Nat.zero_add, World.cell?_alloc_mark]
  simp [hi, byteCells]

theorem run_cut (W : World) (a : Option Addr) (n c : Nat) (k : IntKind) (l : Int) (h0 : 0 ≤ l) (h1 : l ≤ n) :
    (Instr.slice 22 (.slice a n c) (some (.int k l)) none none).run Tryz.prog W = .ok (.slice (cutAt a c l.toNat) (n - l.toNat) (c - l.toNat)) W := by
  rw [run_slice_l (P := Tryz.prog) (w := W) 22 a n c (by kernel_rfl) k l h0 h1]
  have hs : (sizeOf (Tryz.prog.elem 22)).run Tryz.prog W = .ok 1 W := by kernel_rfl
  rw [hs]
  simp [Result.andThen, sliced, cutAt]
end Go.Proofs.YtcphapdjimeoaaaGreat

namespace Go.Proofs.YtcphapdjimeoaaaGreat
open Go.RowKit

def byteV (c : UInt8) : Value := .int .u8 (c.toNat : Int)
/-- v is nil, or lies in a block of the call's own (from base on), and reads as these bytes. -/
def OwnB (w : World) (base : Nat) (v : Value) (l : List UInt8) : Prop := w.ownsRow base 5 1 v l.length (l.map byteV)
theorem byte_info : (Tryz.prog.info? 5).map (fun i => (i.zero, i.size, i.bytes)) = some (some (.int .u8 0), 1, 1) := by kernel_rfl

theorem OwnB.nil (w : World) (base : Nat) : OwnB w base (.slice none 0 0) [] := World.ownsRow_nil w base _ _
theorem Ext.grown {w w' : World} (h : Ext w w') (row : Option Nat) : w.grownBy w' row := ⟨h.os, h.tape, h.output, h.size, fun i hi _ => h.block i hi⟩
theorem OwnB.empty (w : World) {base : Nat} (h : base ≤ w.heap.size) : OwnB (w.alloc (.cells #[] 5)) base (.slice (some ⟨w.heap.size, 0, none⟩) 0 0) [] :=
  World.ownsRow_made (size := 1) w #[] 0 h (by unfold maxLen; omega) (by simp)
theorem OwnB.lit (w : World) (cs : Array Value) (l : List UInt8) (n : Nat) (hcs : cs = (l.map byteV).toArray) (hn : l.length = n) (hm : n ≤ 1000) {base : Nat} (h : base ≤ w.heap.size) :
    OwnB (w.alloc (.cells cs 5)) base (.slice (some ⟨w.heap.size, 0, none⟩) n n) l := by
  subst hcs
  subst hn
  have := World.ownsRow_lit (e := 5) (size := 1) w (l.map byteV).toArray l.length h (by unfold maxLen; omega) (by simp)
  simpa [OwnB] using this
theorem OwnB.ext {w w' : World} {base : Nat} {v : Value} {l : List UInt8} (h : OwnB w base v l) (hE : Ext w w') : OwnB w' base v l :=
  World.ownsRow.kept h (hE.grown none) (by cases hv : v.ownBlock <;> simp)
theorem OwnB.form {w : World} {base : Nat} {v : Value} {l : List UInt8} (h : OwnB w base v l) :
    ∃ A c, v = .slice A l.length c ∧ l.length ≤ c ∧ c ≤ maxLen ∧ Bytes w w.heap.size A l.length l := by
  have hl := h.lt
  rcases h.2 with ⟨rfl, h0⟩ | ⟨g, cap, cur, rfl, hb, hg, hn, hc, hs, ht⟩
  · exact ⟨none, 0, by rw [h0], by omega, by unfold maxLen; omega, rfl, .inl h0⟩
  · refine ⟨_, cap, rfl, hn, hc, rfl, .inr ⟨g, 0, rfl, (hl g rfl).2, fun i hi => ?_⟩⟩
    have hk := World.ownsRow.cellAt h i (by omega)
    rw [Nat.zero_add, hk]
    simp [byteV, hi]
theorem OwnB.form' {w : World} {base : Nat} {v : Value} {l : List UInt8} (h : OwnB w base v l) : ∃ A n c, v = .slice A n c ∧ n ≤ c ∧ n ≤ l.length ∧ Bytes w w.heap.size A n l := by
  obtain ⟨A, c, hv, hc, _, hb⟩ := h.form
  exact ⟨A, _, c, hv, hc, Nat.le_refl _, hb⟩
theorem OwnB.mono {w : World} {base base' : Nat} {v : Value} {l : List UInt8} (h : OwnB w base v l) (hb : base' ≤ base) : OwnB w base' v l :=
  ⟨h.1, h.2.elim Or.inl fun ⟨g, cap, cur, hv, hg, r⟩ => Or.inr ⟨g, cap, cur, hv, Nat.le_trans hb hg, r⟩⟩
/-- How long it may be. -/
theorem OwnB.len_le {w : World} {base : Nat} {v : Value} {l : List UInt8} (h : OwnB w base v l) : l.length ≤ maxLen := by
  obtain ⟨_, c, _, h1, h2, _⟩ := h.form
  omega

theorem run_append_zero (w : World) (ty : TypeId) (base : Nat) (v : Value) (l : List UInt8) (hown : OwnB w base v l) (A : Option Addr) (c : Nat) :
    (Builtin.append_ #[22, 22] ty #[v, .slice A 0 c]).run Tryz.prog w = .ok v w := by
  obtain ⟨i, hi, _, _, _⟩ := info_parts byte_info
  rcases hown.2 with ⟨rfl, _⟩ | ⟨g, cap, cur, rfl, _, _, hnc, _⟩
  · cases A <;> simp [Builtin.append_, run_underlying Tryz.underlying22, sizeOf, typeInfo, hi, Builtin.lenOf, Builtin.firstCells, loadCells, loadCellsFrom]
  · cases A <;> simp [Builtin.append_, run_underlying Tryz.underlying22, sizeOf, typeInfo, hi, Builtin.lenOf, Builtin.firstCells, loadCells, loadCellsFrom, hnc, storeCells]

/-- Where bytes of the call's own lie, if there are any. -/
theorem OwnB.formG {w : World} {base : Nat} {v : Value} {l : List UInt8} (h : OwnB w base v l) (hl : 0 < l.length) : ∃ g c, v = .slice (some ⟨g, 0, none⟩) l.length c ∧ base ≤ g ∧ l.length ≤ c := by
  rcases h.2 with ⟨_, h0⟩ | ⟨g, cap, _, rfl, hb, _, hn, _⟩
  · omega
  · exact ⟨g, cap, rfl, hb, hn⟩
theorem OwnB.cell {w : World} {base g n c : Nat} {l : List UInt8} (h : OwnB w base (.slice (some ⟨g, 0, none⟩) n c) l) {i : Nat} (hi : i < l.length) :
    w.cell? ⟨g, i, none⟩ = some (.int .u8 ((l.getD i 0).toNat : Int)) ∧ w.frozen? ⟨g, i, none⟩ = false := by
  have hn : n = l.length := by
    rcases h.2 with ⟨h', _⟩ | ⟨_, _, _, h', _⟩
    · simp at h'
    · simp only [Value.slice.injEq] at h'; exact h'.2.1
  subst hn
  refine ⟨?_, World.ownsRow.frozenAt h i⟩
  rw [World.ownsRow.cellAt h i (by omega)]
  simp [byteV, hi]
theorem OwnB.set {w : World} {base g n c : Nat} {l : List UInt8} (h : OwnB w base (.slice (some ⟨g, 0, none⟩) n c) l) (i : Nat) (x : UInt8) :
    OwnB (w.setCell ⟨g, i, none⟩ (.int .u8 (x.toNat : Int))) base (.slice (some ⟨g, 0, none⟩) n c) (l.set i x) := by
  have hn : n = l.length := by
    rcases h.2 with ⟨h', _⟩ | ⟨_, _, _, h', _⟩
    · simp at h'
    · simp only [Value.slice.injEq] at h'; exact h'.2.1
  subst hn
  have := (World.ownsRow.stored h i (byteV x)).1
  unfold OwnB
  rw [List.length_set, List.map_set]
  exact this
/-- append of bytes, wherever they lie. -/
theorem app_run {w : World} (ty : TypeId) {base : Nat} {v : Value} {l : List UInt8} (hown : OwnB w base v l) {A : Option Addr} {m : Nat} {k : List UInt8} (c : Nat) (hb : Bytes w w.heap.size A m k)
    (hlen : l.length + m ≤ 140737488355328) (hbase : base ≤ w.heap.size) :
    ∃ v' w', (Builtin.append_ #[22, 22] ty #[v, .slice A m c]).run Tryz.prog w = .ok v' w' ∧ OwnB w' base v' (l ++ k) ∧ w.grownBy w' v.ownBlock := by
  obtain ⟨hk, hb⟩ := hb
  rcases hb with rfl | ⟨b, off, rfl, hB, hc⟩
  · obtain rfl := List.eq_nil_of_length_eq_zero hk
    exact ⟨v, w, run_append_zero w ty base v l hown A c, by simpa using hown, World.grownBy.refl w _⟩
  · obtain ⟨i, hi, hz, hs, hby⟩ := info_parts byte_info
    obtain ⟨v', w', hr, h2, h3, _⟩ := run_append_own (P := Tryz.prog) w base 22 ty 5 i _ 1 1 Tryz.underlying22 hi hz hs hby rfl (by omega) v l.length (l.map byteV) hown
      ⟨b, off, none⟩ m c (k.map byteV) (by simpa using hk) (by
        intro j u hu
        have hj : j < m := by
          rcases Nat.lt_or_ge j m with h | h
          · exact h
          · rw [List.getElem?_eq_none (by simp; omega)] at hu; cases hu
        have hadd : (⟨b, off, none⟩ : Addr).add j = ⟨b, off + j, none⟩ := by unfold Addr.add; split <;> simp_all
        rw [hadd, hc j hj]
        rw [List.getElem?_map, List.getElem?_eq_getElem (by omega)] at hu
        rw [List.getD_eq_getElem?_getD, List.getElem?_eq_getElem (by omega)]
        simpa [byteV] using hu) (by
        intro u hu
        obtain ⟨x, _, rfl⟩ := List.mem_map.1 hu
        rfl) (by unfold maxLen; omega) (by omega) hbase
    refine ⟨v', w', hr, ?_, h3⟩
    unfold OwnB
    rw [List.length_append, hk, List.map_append]
    exact h2
/-- append of one byte: it is laid in a block of its own first. -/
theorem app_one {w : World} (ty : TypeId) {base : Nat} {v : Value} {l : List UInt8} (hown : OwnB w base v l) (x : UInt8) (hlen : l.length + 1 ≤ 140737488355328) (hbase : base ≤ w.heap.size) :
    ∃ v' w', (Builtin.append_ #[22, 22] ty #[v, .slice (some ⟨w.heap.size, 0, none⟩) 1 1]).run Tryz.prog (w.alloc (.cells #[.int .u8 (x.toNat : Int)] 5)) = .ok v' w' ∧ OwnB w' base v' (l ++ [x]) ∧
      (w.alloc (.cells #[.int .u8 (x.toNat : Int)] 5)).grownBy w' v.ownBlock :=
  app_run ty (hown.ext (extNew w _)) 1 (bytesNew w [x] _ _ _ rfl 1 rfl) hlen (by simp; omega)
/-- The same at the operation. -/
theorem wp_app {o : Oper} {a : Act} {K : Act → World → Prop} {Q : Exit → Act → World → Prop} {w : World} (s x : Operand)
    (ho : o.op = .call { callee := .builtin .append, args := #[s, x], argTypes := #[22, 22] }) {base : Nat} {v : Value} {l : List UInt8} (hs : a.eval s = v) (hown : OwnB w base v l)
    {A : Option Addr} {m c : Nat} {k : List UInt8} (hx : a.eval x = .slice A m c) (hb : Bytes w w.heap.size A m k) (hlen : l.length + m ≤ 140737488355328) (hbase : base ≤ w.heap.size)
    (h : ∀ v' w', OwnB w' base v' (l ++ k) → w.grownBy w' v.ownBlock → K (a.put o.dst v') w') : o.wp Tryz.prog a w K Q := by
  obtain ⟨v', w', hr, h2, h3⟩ := app_run o.type hown c hb hlen hbase
  unfold Oper.wp execOp
  simp only [ho, resolve, invoke, builtin, Sem.run_bind, Sem.run_pure, Result.andThen_ok, List.map_toArray, List.map_cons, List.map_nil, hs, hx, hr]
  exact h v' w' h2 h3
/-- The same for a walk of a plain region. -/
theorem wpList_app {ops : Array Oper} {rest : List Oper} {o : Oper} {a : Act} {Q : Exit → Act → World → Prop} {w : World} (hgd : o.guard = none) (s x : Operand)
    (ho : o.op = .call { callee := .builtin .append, args := #[s, x], argTypes := #[22, 22] }) {base : Nat} {v : Value} {l : List UInt8} (hs : a.eval s = v) (hown : OwnB w base v l)
    {A : Option Addr} {m c : Nat} {k : List UInt8} (hx : a.eval x = .slice A m c) (hb : Bytes w w.heap.size A m k) (hlen : l.length + m ≤ 140737488355328) (hbase : base ≤ w.heap.size)
    (h : ∀ v' w', OwnB w' base v' (l ++ k) → w.grownBy w' v.ownBlock → wpList Tryz.prog ops Q rest (a.put o.dst v') w') : wpList Tryz.prog ops Q (o :: rest) a w :=
  wpList_plain hgd fun _ hK => wp_app s x ho hs hown hx hb hlen hbase fun v' w' h2 h3 => hK _ _ (h v' w' h2 h3)
/-- The same for a region that draws its order. -/
theorem step_app {ops : Array Oper} {o : Oper} {a : Act} {K : Act → World → Prop} {Q : Exit → Act → World → Prop} {E : Prop} {w : World} (hgd : o.guard = none) (s x : Operand)
    (ho : o.op = .call { callee := .builtin .append, args := #[s, x], argTypes := #[22, 22] }) {base : Nat} {v : Value} {l : List UInt8} (hs : a.eval s = v) (hown : OwnB w base v l)
    {A : Option Addr} {m c : Nat} {k : List UInt8} (hx : a.eval x = .slice A m c) (hb : Bytes w w.heap.size A m k) (hlen : l.length + m ≤ 140737488355328) (hbase : base ≤ w.heap.size)
    (h : ∀ v' w', OwnB w' base v' (l ++ k) → w.grownBy w' v.ownBlock → K (a.put o.dst v') w') :
    if Region.wanted o (yielded ops a.tmps) = true then Oper.wp Tryz.prog o a w K Q else E := by
  have hw : Region.wanted o (yielded ops a.tmps) = true := by simp [Region.wanted, hgd]
  rw [if_pos hw]
  exact wp_app s x ho hs hown hx hb hlen hbase h
/-- Behind a call that makes bytes: they lie in new memory. -/
def MadeB (w : World) (l : List UInt8) (e : Ending) (w' : World) : Prop := ∃ v, e = .returned v ∧ OwnB w' w.heap.size v l ∧ Ext w w'
/-- What an append leaves of the memory below base. -/
theorem OwnB.below {w0 w w' : World} {base : Nat} {v : Value} {l : List UInt8} (h : OwnB w base v l) (hb : Below base w0 w) (hg : w.grownBy w' v.ownBlock) (hbase : base ≤ w.heap.size) : Below base w0 w' :=
  hb.grown hg hbase fun k hk => (h.lt k hk).1
end Go.Proofs.YtcphapdjimeoaaaGreat

namespace Go.Proofs.YtcphapdjimeoaaaGreat
open Go.RowKit

/-- A slice of numbers that came in. -/
def IntsAt (w : World) (B : Nat) (A : Option Addr) (n : Nat) (L : List Int) : Prop :=
  L.length = n ∧ (n = 0 ∨ ∃ b off, A = some ⟨b, off, none⟩ ∧ b < B ∧ ∀ i, i < n → w.cell? ⟨b, off + i, none⟩ = some (.int .i64 (L.getD i 0)))
theorem IntsAt.below {w w' : World} {B C : Nat} {A : Option Addr} {n : Nat} {L : List Int} (h : IntsAt w B A n L) (hb : Below C w w') (hC : B ≤ C) : IntsAt w' B A n L := by
  refine ⟨h.1, ?_⟩
  rcases h.2 with h0 | ⟨b, off, hA, hB, hc⟩
  · exact .inl h0
  · exact .inr ⟨b, off, hA, hB, fun i hi => by rw [hb.cell (p := ⟨b, off + i, none⟩) (Nat.lt_of_lt_of_le hB hC)]; exact hc i hi⟩
theorem IntsAt.later {w w' : World} {A : Option Addr} {n : Nat} {L : List Int} (h : IntsAt w w.heap.size A n L) (hE : Ext w w') : IntsAt w' w'.heap.size A n L := by
  refine ⟨h.1, ?_⟩
  rcases h.2 with h0 | ⟨b, off, hA, hB, hc⟩
  · exact .inl h0
  · exact .inr ⟨b, off, hA, Nat.lt_of_lt_of_le hB hE.le, fun i hi => by rw [hE.cell hB]; exact hc i hi⟩
theorem intsNew (w : World) (L : List Int) (cs : Array Value) (t : TypeId) (fr : Nat × Nat) (h : cs = (L.map (Value.int .i64)).toArray) (n : Nat) (hn : L.length = n) :
    IntsAt (w.alloc (.cells cs t fr)) (w.alloc (.cells cs t fr)).heap.size (some ⟨w.heap.size, 0, none⟩) n L := by
  subst h
  subst hn
  refine ⟨rfl, .inr ⟨w.heap.size, 0, rfl, by simp, fun i hi => ?_⟩⟩
  rw [Nat.zero_add, World.cell?_alloc_mark]
  simp [hi]
end Go.Proofs.YtcphapdjimeoaaaGreat

namespace Go.Proofs.YtcphapdjimeoaaaGreat
open Go.RowKit

/-- v is nil, or lies in a block of the call's own, and reads as these numbers. -/
def OwnI (w : World) (base : Nat) (v : Value) (L : List Int) : Prop := w.ownsRow base 3 1 v L.length (L.map (Value.int .i64))
theorem int_info : (Tryz.prog.info? 3).map (fun i => (i.zero, i.size, i.bytes)) = some (some (.int .i64 0), 1, 8) := by kernel_rfl
theorem OwnI.nil (w : World) (base : Nat) : OwnI w base (.slice none 0 0) [] := World.ownsRow_nil w base _ _
theorem OwnI.ext {w w' : World} {base : Nat} {v : Value} {L : List Int} (h : OwnI w base v L) (hE : Ext w w') : OwnI w' base v L :=
  World.ownsRow.kept h (hE.grown none) (by cases hv : v.ownBlock <;> simp)
theorem OwnI.lt {w : World} {base : Nat} {v : Value} {L : List Int} (h : OwnI w base v L) : ∀ k, v.ownBlock = some k → base ≤ k ∧ k < w.heap.size := World.ownsRow.lt h
theorem OwnI.form {w : World} {base : Nat} {v : Value} {L : List Int} (h : OwnI w base v L) : ∃ A c, v = .slice A L.length c ∧ L.length ≤ c ∧ IntsAt w w.heap.size A L.length L := by
  have hl := h.lt
  rcases h.2 with ⟨rfl, h0⟩ | ⟨g, cap, cur, rfl, hb, hg, hn, hc, hs, ht⟩
  · exact ⟨none, 0, by rw [h0], by omega, rfl, .inl h0⟩
  · refine ⟨_, cap, rfl, hn, rfl, .inr ⟨g, 0, rfl, (hl g rfl).2, fun i hi => ?_⟩⟩
    have hk := World.ownsRow.cellAt h i (by omega)
    rw [Nat.zero_add, hk]
    simp [hi]
section
variable {o : Oper} {a : Act} {Q : Exit → Act → World → Prop} {w : World} {base : Nat} {v : Value} {L : List Int}
/-- append of one number, which lies in a block of its own. -/
theorem wpList_appIB {ops : Array Oper} {rest : List Oper} (hgd : o.guard = none) (s x : Operand) (ho : o.op = .call { callee := .builtin .append, args := #[s, x], argTypes := #[43, 43] }) (hs : a.eval s = v) (p : Int)
    (hown : OwnI (w.alloc (.cells #[.int .i64 p] 3)) base v L) {c : Nat} (hx : a.eval x = .slice (some ⟨w.heap.size, 0, none⟩) 1 c) (hlen : L.length ≤ 1000000) (hbase : base ≤ w.heap.size)
    (h : ∀ v' w', OwnI w' base v' (L ++ [p]) → (w.alloc (.cells #[.int .i64 p] 3)).grownBy w' v.ownBlock → wpList Tryz.prog ops Q rest (a.put o.dst v') w') :
    wpList Tryz.prog ops Q (o :: rest) a (w.alloc (.cells #[.int .i64 p] 3)) := by
  obtain ⟨i, hi, hz, hsz, hby⟩ := info_parts int_info
  refine wpList_append_own_at _ hgd s x 43 ho base 3 i _ 1 8 Tryz.underlying43 hi hz hsz hby rfl (by omega) v L.length (L.map (Value.int .i64)) hs hown ⟨w.heap.size, 0, none⟩ 1 c [.int .i64 p] hx rfl (by
    intro j u hu
    match j, hu with
    | 0, hu =>
      have : (⟨w.heap.size, 0, none⟩ : Addr).add 0 = ⟨w.heap.size, 0, none⟩ := rfl
      rw [this, cellNew]
      simpa using hu
    | j + 1, hu => simp at hu) (by
    intro u hu
    simp at hu
    subst hu
    rfl) (by unfold maxLen; omega) (by omega) (by simp; omega) ?_
  intro v' w' h2 h3 _ h5
  refine h v' w' ?_ h3
  unfold OwnI
  rw [List.length_append, List.map_append]
  exact h2
theorem wpList_appI {ops : Array Oper} {rest : List Oper} (hgd : o.guard = none) (s x : Operand) (ho : o.op = .call { callee := .builtin .append, args := #[s, x], argTypes := #[43, 43] }) (hs : a.eval s = v) (p : Int)
    (hown : OwnI (w.alloc (.cells #[.int .i64 p] 3)) base v L) {c : Nat} (hx : a.eval x = .slice (some ⟨w.heap.size, 0, none⟩) 1 c) (hlen : L.length ≤ 1000) (hbase : base ≤ w.heap.size)
    (h : ∀ v' w', OwnI w' base v' (L ++ [p]) → (w.alloc (.cells #[.int .i64 p] 3)).grownBy w' v.ownBlock → wpList Tryz.prog ops Q rest (a.put o.dst v') w') :
    wpList Tryz.prog ops Q (o :: rest) a (w.alloc (.cells #[.int .i64 p] 3)) :=
  wpList_appIB hgd s x ho hs p hown hx (by omega) hbase h
end
end Go.Proofs.YtcphapdjimeoaaaGreat

namespace Go.Proofs.YtcphapdjimeoaaaGreat
open Go.RowKit

namespace Num
/-- A number's bytes; f: how many there may be. -/
def encF : Nat → Nat → List UInt8
  | 0, _ => []
  | f + 1, x => if x < 128 then [UInt8.ofNat x] else UInt8.ofNat (128 + x % 128) :: encF f (x / 128)
def enc (x : Nat) : List UInt8 := encF 10 x
theorem encF_small {f x : Nat} (h : x < 128) : encF (f + 1) x = [UInt8.ofNat x] := by rw [encF, if_pos h]
theorem encF_big {f x : Nat} (h : ¬ x < 128) : encF (f + 1) x = UInt8.ofNat (128 + x % 128) :: encF f (x / 128) := by rw [encF, if_neg h]
theorem encF_len : ∀ (f x : Nat), (encF f x).length ≤ f
  | 0, _ => by simp [encF]
  | f + 1, x => by
    rw [encF]
    split
    · simp
    · have := encF_len f (x / 128)
      simp; omega
theorem enc_len (x : Nat) : (enc x).length ≤ 10 := encF_len 10 x
theorem enc_pos (x : Nat) : 0 < (enc x).length := by
  unfold enc
  rw [encF]
  split <;> simp

/-- What stands in the bytes from a place on: the number, the place behind it, an error. i: how many of its bytes are taken, x: what they make. -/
def scanF (b : List UInt8) (q : Nat) : Nat → Nat → Nat → Nat × Nat × Int
  | 0, _, _ => (0, q, 2)
  | f + 1, i, x =>
    if b.length ≤ q + i then (0, q, 1)
    else if (i = 9 ∧ (b.getD (q + i) 0).toNat ≠ 1) ∨ (0 < i ∧ (b.getD (q + i) 0).toNat = 0) then (0, q, 2)
    else if (b.getD (q + i) 0).toNat < 128 then (x + (b.getD (q + i) 0).toNat % 128 * 128 ^ i, q + i + 1, 0)
    else scanF b q f (i + 1) (x + (b.getD (q + i) 0).toNat % 128 * 128 ^ i)
def scan (b : List UInt8) (q : Nat) : Nat × Nat × Int := scanF b q 10 0 0
/-- What the first i bytes make stays below 128 ^ i. -/
theorem part_lt {x c i : Nat} (h : x < 128 ^ i) : x + c % 128 * 128 ^ i < 128 ^ (i + 1) := by
  have h1 : c % 128 < 128 := Nat.mod_lt _ (by decide)
  have h2 : (c % 128 + 1) * 128 ^ i ≤ 128 * 128 ^ i := Nat.mul_le_mul_right _ h1
  rw [Nat.add_mul, Nat.one_mul] at h2
  rw [Nat.pow_succ, Nat.mul_comm (128 ^ i)]
  omega
/-- The place does not go beyond the bytes; with an error it stands. -/
theorem scanF_facts (b : List UInt8) (q : Nat) : ∀ f i x, x < 128 ^ i → i + f = 10 → (scanF b q f i x).1 < 2 ^ 64 ∧ ((scanF b q f i x).2.2 = 0 → q < (scanF b q f i x).2.1 ∧ (scanF b q f i x).2.1 ≤ b.length) ∧ ((scanF b q f i x).2.2 ≠ 0 → (scanF b q f i x).2.1 = q ∧ (scanF b q f i x).1 = 0) ∧ ((scanF b q f i x).2.2 = 0 ∨ (scanF b q f i x).2.2 = 1 ∨ (scanF b q f i x).2.2 = 2)
  | 0, i, x, _, _ => by simp [scanF]
  | f + 1, i, x, hx, hf => by
    rw [scanF]
    by_cases h1 : b.length ≤ q + i
    · rw [if_pos h1]; simp
    · rw [if_neg h1]
      by_cases h2 : (i = 9 ∧ (b.getD (q + i) 0).toNat ≠ 1) ∨ (0 < i ∧ (b.getD (q + i) 0).toNat = 0)
      · rw [if_pos h2]; simp
      · rw [if_neg h2]
        by_cases h3 : (b.getD (q + i) 0).toNat < 128
        · rw [if_pos h3]
          refine ⟨?_, fun _ => ⟨by simp; omega, by simp; omega⟩, fun h => absurd rfl h, .inl rfl⟩
          show x + (b.getD (q + i) 0).toNat % 128 * 128 ^ i < 2 ^ 64
          by_cases h9 : i = 9
          · subst h9
            have hc : (b.getD (q + 9) 0).toNat = 1 := by
              rcases Nat.lt_trichotomy (b.getD (q + 9) 0).toNat 1 with h | h | h
              · exact absurd (.inr ⟨by omega, by omega⟩) h2
              · exact h
              · exact absurd (.inl ⟨rfl, by omega⟩) h2
            rw [hc]
            have : (128 : Nat) ^ 9 = 2 ^ 63 := by decide
            omega
          · have h4 := part_lt (c := (b.getD (q + i) 0).toNat) hx
            have h5 : (128 : Nat) ^ (i + 1) ≤ 128 ^ 9 := Nat.pow_le_pow_right (by decide) (by omega)
            have : (128 : Nat) ^ 9 = 2 ^ 63 := by decide
            omega
        · rw [if_neg h3]
          exact scanF_facts b q f (i + 1) _ (part_lt hx) (by omega)
theorem scan_facts (b : List UInt8) (q : Nat) : (scan b q).1 < 2 ^ 64 ∧ ((scan b q).2.2 = 0 → q < (scan b q).2.1 ∧ (scan b q).2.1 ≤ b.length) ∧ ((scan b q).2.2 ≠ 0 → (scan b q).2.1 = q ∧ (scan b q).1 = 0) ∧ ((scan b q).2.2 = 0 ∨ (scan b q).2.2 = 1 ∨ (scan b q).2.2 = 2) :=
  scanF_facts b q 10 0 0 (by decide) rfl

theorem ofNat_low (y : Nat) (h : y < 256) : (UInt8.ofNat y).toNat = y := by rw [UInt8.toNat_ofNat']; exact Nat.mod_eq_of_lt h
/-- What is written is read. -/
theorem scanF_enc (pre post : List UInt8) : ∀ (f i x y : Nat), i + f = 10 → y < 2 ^ 64 / 128 ^ i → (0 < i → 0 < y) → ∀ (done : List UInt8), done.length = i →
    scanF (pre ++ done ++ encF f y ++ post) pre.length f i x = (x + y * 128 ^ i, pre.length + i + (encF f y).length, 0)
  | 0, i, x, y, hf, hy, hp, done, hd => by
    obtain rfl : i = 10 := by omega
    have : y = 0 := by
      have : (2 : Nat) ^ 64 / 128 ^ 10 = 0 := by decide
      omega
    exact absurd (hp (by omega)) (by omega)
  | f + 1, i, x, y, hf, hy, hp, done, hd => by
    have hlen : pre.length + i = (pre ++ done).length := by rw [List.length_append, hd]
    rw [scanF]
    by_cases hs : y < 128
    · rw [encF_small hs]
      have hg : (pre ++ done ++ [UInt8.ofNat y] ++ post).getD (pre.length + i) 0 = UInt8.ofNat y := by
        rw [List.getD_eq_getElem?_getD, hlen, List.append_assoc _ [UInt8.ofNat y], List.getElem?_append_right (Nat.le_refl _), Nat.sub_self]; rfl
      rw [if_neg (by simp; omega), hg, ofNat_low y (by omega), if_neg, if_pos hs]
      · simp [Nat.mod_eq_of_lt hs]
      · rintro (⟨h9, h1⟩ | ⟨h0, h1⟩)
        · subst h9
          have : (2 : Nat) ^ 64 / 128 ^ 9 = 2 := by decide
          have := hp (by omega)
          omega
        · have := hp h0
          omega
    · have h9 : i ≠ 9 := by
        rintro rfl
        have : (2 : Nat) ^ 64 / 128 ^ 9 = 2 := by decide
        omega
      rw [encF_big hs]
      have hg : (pre ++ done ++ (UInt8.ofNat (128 + y % 128) :: encF f (y / 128)) ++ post).getD (pre.length + i) 0 = UInt8.ofNat (128 + y % 128) := by
        rw [List.getD_eq_getElem?_getD, hlen, List.append_assoc _ (UInt8.ofNat (128 + y % 128) :: encF f (y / 128)), List.getElem?_append_right (Nat.le_refl _), Nat.sub_self]; rfl
      have hmod : (128 + y % 128) % 128 = y % 128 := by omega
      rw [if_neg (by simp; omega), hg, ofNat_low _ (by omega), if_neg, if_neg (by omega), hmod]
      · have ih := scanF_enc pre post f (i + 1) (x + y % 128 * 128 ^ i) (y / 128) (by omega) (by
          rw [show (128 : Nat) ^ (i + 1) = 128 ^ i * 128 from rfl, ← Nat.div_div_eq_div_mul]
          have h0 : (2 ^ 64 / 128 ^ i) % 128 = 0 := by
            rcases (by omega : i = 0 ∨ i = 1 ∨ i = 2 ∨ i = 3 ∨ i = 4 ∨ i = 5 ∨ i = 6 ∨ i = 7 ∨ i = 8) with rfl | rfl | rfl | rfl | rfl | rfl | rfl | rfl | rfl <;> decide
          generalize 2 ^ 64 / 128 ^ i = N at *
          omega) (fun _ => by omega) (done ++ [UInt8.ofNat (128 + y % 128)]) (by simp [hd])
        have e : pre ++ (done ++ [UInt8.ofNat (128 + y % 128)]) ++ encF f (y / 128) ++ post = pre ++ done ++ (UInt8.ofNat (128 + y % 128) :: encF f (y / 128)) ++ post := by simp
        rw [e] at ih
        rw [ih]
        have hy2 : y % 128 + y / 128 * 128 = y := by omega
        have : x + y % 128 * 128 ^ i + y / 128 * 128 ^ (i + 1) = x + y * 128 ^ i := by
          rw [Nat.pow_succ, Nat.mul_comm (128 ^ i) 128, ← Nat.mul_assoc, Nat.add_assoc, ← Nat.add_mul, hy2]
        rw [this]
        simp
        omega
      · rintro (⟨h, _⟩ | ⟨_, h⟩)
        · exact h9 h
        · omega
theorem scan_enc (pre post : List UInt8) (x : Nat) (h : x < 2 ^ 64) : scan (pre ++ enc x ++ post) pre.length = (x, pre.length + (enc x).length, 0) := by
  have := scanF_enc pre post 10 0 0 x rfl (by simpa using h) (fun h => by omega) [] rfl
  simpa [enc, scan] using this
/-- What is read is just what is written. -/
theorem scanF_one (b : List UInt8) (q : Nat) : ∀ (f i x v p : Nat), scanF b q f i x = (v, p, 0) →
    ∃ y, v = x + y * 128 ^ i ∧ (b.drop (q + i)).take (p - (q + i)) = encF f y ∧ (0 < i → 0 < y) ∧ q + i < p ∧ p ≤ b.length
  | 0, i, x, v, p, h => by
    rw [scanF] at h
    simp only [Prod.mk.injEq] at h
    omega
  | f + 1, i, x, v, p, h => by
    rw [scanF] at h
    by_cases h1 : b.length ≤ q + i
    · rw [if_pos h1] at h
      simp only [Prod.mk.injEq] at h
      omega
    rw [if_neg h1] at h
    by_cases h2 : (i = 9 ∧ (b.getD (q + i) 0).toNat ≠ 1) ∨ (0 < i ∧ (b.getD (q + i) 0).toNat = 0)
    · rw [if_pos h2] at h
      simp only [Prod.mk.injEq] at h
      omega
    rw [if_neg h2] at h
    have hlt : q + i < b.length := by omega
    have hget : b.getD (q + i) 0 = b[q + i] := by rw [List.getD_eq_getElem?_getD, List.getElem?_eq_getElem hlt]; rfl
    rw [hget] at h h2
    have hdrop : b.drop (q + i) = b[q + i] :: b.drop (q + i + 1) := List.drop_eq_getElem_cons hlt
    have hof : UInt8.ofNat (b[q + i].toNat) = b[q + i] := UInt8.ofNat_toNat
    have hc := (b[q + i]).toNat_lt
    by_cases h3 : (b[q + i]).toNat < 128
    · rw [if_pos h3] at h
      simp only [Prod.mk.injEq] at h
      obtain ⟨hv, hp, _⟩ := h
      refine ⟨b[q + i].toNat, by rw [← hv, Nat.mod_eq_of_lt h3], ?_, fun h0 => ?_, by omega, by omega⟩
      · rw [hdrop, ← hp, show q + i + 1 - (q + i) = 1 by omega, encF_small h3, hof]
        rfl
      · rcases Nat.eq_zero_or_pos b[q + i].toNat with h | h
        · exact absurd (.inr ⟨h0, h⟩) h2
        · exact h
    · rw [if_neg h3] at h
      obtain ⟨y, hv, htake, hy, hqp, hpl⟩ := scanF_one b q f (i + 1) _ v p h
      have hy0 := hy (by omega)
      refine ⟨b[q + i].toNat % 128 + 128 * y, ?_, ?_, fun _ => by omega, by omega, hpl⟩
      · rw [hv, Nat.pow_succ, Nat.add_mul, Nat.mul_comm (128 ^ i) 128, ← Nat.mul_assoc, Nat.mul_comm 128 y, Nat.add_assoc]
      · have e1 : (b[q + i].toNat % 128 + 128 * y) % 128 = b[q + i].toNat % 128 := by omega
        have e2 : (b[q + i].toNat % 128 + 128 * y) / 128 = y := by omega
        have e3 : 128 + b[q + i].toNat % 128 = b[q + i].toNat := by omega
        rw [encF_big (by omega), e1, e2, e3, hof, hdrop, show p - (q + i) = (p - (q + (i + 1))) + 1 by omega, List.take_succ_cons]
        congr 1
theorem scan_one {b : List UInt8} {x : Nat} (h : scan b 0 = (x, b.length, 0)) : enc x = b := by
  obtain ⟨y, hv, ht, _⟩ := scanF_one b 0 10 0 0 x b.length h
  simp only [Nat.pow_zero, Nat.mul_one, Nat.zero_add] at hv ht
  rw [List.drop_zero, Nat.sub_zero, List.take_length] at ht
  rw [hv]
  exact ht.symm

/-! ### Fixed numbers -/
/-- The n lowest bytes of x, the lowest first. -/
def fix : Nat → Nat → List UInt8
  | 0, _ => []
  | n + 1, x => UInt8.ofNat (x % 256) :: fix n (x / 256)
theorem fix_len : ∀ n x, (fix n x).length = n
  | 0, _ => rfl
  | n + 1, x => by rw [fix, List.length_cons, fix_len]
/-- The number that bytes make, the lowest first. -/
def low : List UInt8 → Nat
  | [] => 0
  | c :: l => c.toNat + 256 * low l
theorem low_fix : ∀ n x, x < 256 ^ n → low (fix n x) = x
  | 0, x, h => by simp at h; simp [fix, low, h]
  | n + 1, x, h => by
    rw [fix, low, low_fix n (x / 256) (by rw [Nat.pow_succ] at h; omega), ofNat_low _ (by omega)]
    omega
theorem low_lt : ∀ l : List UInt8, low l < 256 ^ l.length
  | [] => by simp [low]
  | c :: l => by
    have h := low_lt l
    have hc := c.toNat_lt
    have : (low l + 1) * 256 ≤ 256 ^ l.length * 256 := Nat.mul_le_mul_right _ h
    rw [low, List.length_cons, Nat.pow_succ]
    omega
theorem low_drop (l : List UInt8) (k : Nat) (h : k < l.length) : low (l.drop k) = (l.getD k 0).toNat + 256 * low (l.drop (k + 1)) := by
  rw [List.drop_eq_getElem_cons h, low, List.getD_eq_getElem?_getD, List.getElem?_eq_getElem h]
  rfl
theorem fix_snoc : ∀ n x, fix (n + 1) x = fix n x ++ [UInt8.ofNat (x / 256 ^ n % 256)]
  | 0, x => by simp [fix]
  | n + 1, x => by
    rw [fix, fix_snoc n (x / 256), Nat.div_div_eq_div_mul, Nat.mul_comm 256, ← Nat.pow_succ]
    rfl

/-! ### Signed numbers -/
def zig (d : Nat) : Nat := if 2 ^ 63 ≤ d then 2 * (2 ^ 64 - 1 - d) + 1 else 2 * d
def zag (z : Nat) : Nat := if z % 2 = 1 then 2 ^ 64 - 1 - z / 2 else z / 2
theorem zag_zig {d : Nat} (h : d < 2 ^ 64) : zag (zig d) = d := by
  unfold zag zig
  split <;> split <;> omega
theorem zig_zag {z : Nat} (h : z < 2 ^ 64) : zig (zag z) = z := by
  unfold zag zig
  split <;> split <;> omega
theorem zig_lt {d : Nat} (h : d < 2 ^ 64) : zig d < 2 ^ 64 := by
  unfold zig
  split <;> omega
theorem zag_lt {z : Nat} (h : z < 2 ^ 64) : zag z < 2 ^ 64 := by
  unfold zag
  split <;> omega

/-! ### A cursor's calls: bytes, place, error; what they answer, the place and the error behind them -/
def numR (b : List UInt8) (q : Nat) (e : Int) : Nat × Nat × Int := if e = 0 then scan b q else (0, q, e)
def intR (b : List UInt8) (q : Nat) (e most : Int) : Nat × Nat × Int :=
  if (numR b q e).2.2 = 0 then (if most < ((numR b q e).1 : Int) then (0, q, 6) else numR b q e) else (0, (numR b q e).2.1, (numR b q e).2.2)
def takeR (b : List UInt8) (q : Nat) (e n : Int) : List UInt8 × Nat × Int :=
  if e = 0 then (if n < 0 then ([], q, 13) else if ((b.length - q : Nat) : Int) < n then ([], q, 1) else ((b.drop q).take n.toNat, q + n.toNat, 0)) else ([], q, e)
def byteR (b : List UInt8) (q : Nat) (e : Int) : Nat × Nat × Int := (((takeR b q e 1).1.getD 0 0).toNat, (takeR b q e 1).2)
def fixedR (b : List UInt8) (q : Nat) (e n : Int) : Nat × Nat × Int :=
  if e = 0 then (if n < 1 ∨ 8 < n then (0, q, 13) else (low (takeR b q e n).1, (takeR b q e n).2)) else (0, q, e)
def textR (b : List UInt8) (q : Nat) (e most : Int) : List UInt8 × Nat × Int :=
  if (intR b q e most).2.2 = 0 then (if b.length - (intR b q e most).2.1 < (intR b q e most).1 then ([], q, 1) else takeR b (intR b q e most).2.1 0 ((intR b q e most).1 : Int)) else ([], (intR b q e most).2)
def failR (e e' : Int) : Int := if e = 0 then e' else e
def endR (b : List UInt8) (q : Nat) (e : Int) : Int := if e = 0 ∧ 0 < b.length - q then 2 else e
end Num
end Go.Proofs.YtcphapdjimeoaaaGreat

namespace Go.Proofs.YtcphapdjimeoaaaGreat
/-- A record. -/
structure Rc where
  time : Nat
  lv : UInt8
  src : List UInt8
  text : List UInt8
deriving DecidableEq
instance : Inhabited Rc := ⟨⟨0, 0, [], []⟩⟩
namespace Rcs
open Num

def weightE (l : List Rc) : Nat := (l.map fun r => 16 + r.src.length + r.text.length).sum
def checkE (l : List Rc) : Int := if l.length ≤ 20000 ∧ (∀ r ∈ l, r.src.length ≤ 4000 ∧ r.text.length ≤ 4000) ∧ weightE l ≤ 1048576 then 0 else 6
def txtB (s : List UInt8) : List UInt8 := enc s.length ++ s
def oneB (whole : Bool) (r : Rc) : List UInt8 := (if whole = true then enc r.time ++ [r.lv] else []) ++ (txtB r.src ++ txtB r.text)
def bytesB (whole : Bool) (l : List Rc) : List UInt8 := l.flatMap (oneB whole)
/-- What is left of a record that isn't written whole. -/
def bare (whole : Bool) (r : Rc) : Rc := if whole = true then r else ⟨0, 0, r.src, r.text⟩

def timeR (whole : Bool) (b : List UInt8) (q : Nat) : Nat × Nat × Int := if whole = true then numR b q 0 else (0, q, 0)
def lvR (whole : Bool) (b : List UInt8) (q : Nat) : Nat × Nat × Int := if whole = true then byteR b (timeR whole b q).2.1 (timeR whole b q).2.2 else (0, q, 0)
def srcR (whole : Bool) (b : List UInt8) (q : Nat) : List UInt8 × Nat × Int := textR b (lvR whole b q).2.1 (lvR whole b q).2.2 4000
def txtR (whole : Bool) (b : List UInt8) (q : Nat) : List UInt8 × Nat × Int := textR b (srcR whole b q).2.1 (srcR whole b q).2.2 4000
/-- The record that stands from the place q on, the place behind it, an error. -/
def recR (whole : Bool) (b : List UInt8) (q : Nat) : Rc × Nat × Int := (⟨(timeR whole b q).1, UInt8.ofNat (lvR whole b q).1, (srcR whole b q).1, (txtR whole b q).1⟩, (txtR whole b q).2.1, (txtR whole b q).2.2)
def readF (whole : Bool) (b : List UInt8) : Nat → Nat → List Rc × Int
  | 0, _ => ([], 0)
  | f + 1, q => if b.length ≤ q then ([], 0) else if (recR whole b q).2.2 ≠ 0 then ([], (recR whole b q).2.2) else
      if (readF whole b f (recR whole b q).2.1).2 ≠ 0 then ([], (readF whole b f (recR whole b q).2.1).2) else ((recR whole b q).1 :: (readF whole b f (recR whole b q).2.1).1, 0)
def readE (whole : Bool) (b : List UInt8) : List Rc × Int := readF whole b b.length 0

/-- How many records more go into a group of so many bytes. -/
def moreG (whole : Bool) (size : Int) : Nat → List Rc → Nat
  | _, [] => 0
  | sum, r :: t => if ((sum + (oneB whole r).length : Nat) : Int) ≤ size then moreG whole size (sum + (oneB whole r).length) t + 1 else 0
def groupsF (whole : Bool) (size : Int) : Nat → List Rc → List Nat
  | 0, _ => []
  | _ + 1, [] => []
  | f + 1, r :: t => (moreG whole size (oneB whole r).length t + 1) :: groupsF whole size f (t.drop (moreG whole size (oneB whole r).length t))
def groupsE (size : Int) (whole : Bool) (l : List Rc) : List Nat := groupsF whole (if size < 1 then 1 else size) l.length l

def sub64 (a b : Nat) : Nat := (a + (2 ^ 64 - b)) % 2 ^ 64
def timesB : Nat → List Rc → List UInt8
  | _, [] => []
  | was, r :: t => enc (zig (sub64 r.time was)) ++ timesB r.time t
/-- How many records at the beginning have this level. -/
def rowN (x : UInt8) : List Rc → Nat
  | [] => 0
  | r :: t => if r.lv = x then rowN x t + 1 else 0
/-- Rows of levels; p: the level ahead. -/
def levelsB : Option UInt8 → List Rc → List UInt8
  | _, [] => []
  | p, r :: t => (if p = some r.lv then [] else r.lv :: enc (rowN r.lv t + 1)) ++ levelsB (some r.lv) t
def columnsE (l : List Rc) : List UInt8 := timesB 0 l ++ levelsB none l
def timesR (b : List UInt8) : Nat → Nat → Nat → List Nat × Nat × Int
  | 0, _, q => ([], q, 0)
  | n + 1, was, q => if (numR b q 0).2.2 ≠ 0 then ([], 0, (numR b q 0).2.2) else
      if (timesR b n ((was + zag (numR b q 0).1) % 2 ^ 64) (numR b q 0).2.1).2.2 ≠ 0 then ([], 0, (timesR b n ((was + zag (numR b q 0).1) % 2 ^ 64) (numR b q 0).2.1).2.2)
      else ((was + zag (numR b q 0).1) % 2 ^ 64 :: (timesR b n ((was + zag (numR b q 0).1) % 2 ^ 64) (numR b q 0).2.1).1, (timesR b n ((was + zag (numR b q 0).1) % 2 ^ 64) (numR b q 0).2.1).2.1, 0)
/-- How many records a row of levels has. -/
def runR (b : List UInt8) (q left : Nat) : Nat × Nat × Int := intR b (byteR b q 0).2.1 (byteR b q 0).2.2 (left : Int)
def levelsR (b : List UInt8) : Nat → Nat → Option UInt8 → Nat → List UInt8 × Nat × Int
  | 0, _, _, q => ([], q, 0)
  | f + 1, left, p, q => if left = 0 then ([], q, 0) else if (runR b q left).2.2 ≠ 0 then ([], 0, (runR b q left).2.2) else
      if (runR b q left).1 = 0 ∨ p = some (UInt8.ofNat (byteR b q 0).1) then ([], 0, 2) else
      if (levelsR b f (left - (runR b q left).1) (some (UInt8.ofNat (byteR b q 0).1)) (runR b q left).2.1).2.2 ≠ 0 then ([], 0, (levelsR b f (left - (runR b q left).1) (some (UInt8.ofNat (byteR b q 0).1)) (runR b q left).2.1).2.2)
      else (List.replicate (runR b q left).1 (UInt8.ofNat (byteR b q 0).1) ++ (levelsR b f (left - (runR b q left).1) (some (UInt8.ofNat (byteR b q 0).1)) (runR b q left).2.1).1, (levelsR b f (left - (runR b q left).1) (some (UInt8.ofNat (byteR b q 0).1)) (runR b q left).2.1).2.1, 0)
def readCR (n : Nat) (b : List UInt8) : List Nat × List UInt8 × Nat × Int :=
  if (timesR b n 0 0).2.2 ≠ 0 then ([], [], 0, (timesR b n 0 0).2.2) else
  if (levelsR b n n none (timesR b n 0 0).2.1).2.2 ≠ 0 then ([], [], 0, (levelsR b n n none (timesR b n 0 0).2.1).2.2)
  else ((timesR b n 0 0).1, (levelsR b n n none (timesR b n 0 0).2.1).1, (levelsR b n n none (timesR b n 0 0).2.1).2.1, 0)
def readCE (n : Int) (b : List UInt8) : List Nat × List UInt8 × Nat × Int := if n < 0 ∨ 20000 < n then ([], [], 0, 13) else readCR n.toNat b

theorem example17 : columnsE [⟨5, 1, [], []⟩, ⟨3, 1, [], []⟩] = [10, 3, 1, 2] := by decide +kernel
theorem num_at {b pre post : List UInt8} {x : Nat} (hb : b = pre ++ (enc x ++ post)) (hx : x < 2 ^ 64) : numR b pre.length 0 = (x, pre.length + (enc x).length, 0) := by
  have h := scan_enc pre post x hx
  rw [List.append_assoc, ← hb] at h
  unfold numR
  rw [if_pos rfl, h]
theorem int_at {b pre post : List UInt8} {x : Nat} {most : Int} (hb : b = pre ++ (enc x ++ post)) (hx : x < 2 ^ 64) (hm : (x : Int) ≤ most) : intR b pre.length 0 most = (x, pre.length + (enc x).length, 0) := by
  unfold intR
  rw [num_at hb hx]
  dsimp only
  rw [if_pos rfl, if_neg (by omega)]
theorem byte_at {b pre post : List UInt8} {c : UInt8} (hb : b = pre ++ (c :: post)) : byteR b pre.length 0 = (c.toNat, pre.length + 1, 0) := by
  have hl : b.length = pre.length + (post.length + 1) := by rw [hb]; simp
  unfold byteR takeR
  rw [if_pos rfl, if_neg (by omega), if_neg (by omega)]
  have : (b.drop pre.length).take (1 : Int).toNat = [c] := by rw [hb]; simp
  rw [this]
  rfl
theorem text_at {b pre post s : List UInt8} {most : Nat} (hb : b = pre ++ (txtB s ++ post)) (hs : s.length ≤ most) (hm : most ≤ 1000000) : textR b pre.length 0 (most : Int) = (s, pre.length + (txtB s).length, 0) := by
  have h1 : intR b pre.length 0 (most : Int) = (s.length, pre.length + (enc s.length).length, 0) := int_at (post := s ++ post) (by rw [hb, txtB, List.append_assoc]) (by omega) (by omega)
  have hl : b.length = pre.length + ((enc s.length).length + s.length) + post.length := by rw [hb, txtB]; simp; omega
  have hd : (b.drop (pre.length + (enc s.length).length)).take s.length = s := by
    rw [hb, txtB, ← List.append_assoc, ← List.append_assoc, List.append_assoc _ s post, List.drop_left' (by simp)]
    simp
  unfold textR
  rw [h1]
  dsimp only
  rw [if_pos rfl, if_neg (by omega)]
  unfold takeR
  rw [if_pos rfl, if_neg (by omega), if_neg (by omega), Int.toNat_natCast, hd, txtB, List.length_append]
  congr 2
  omega
/-- Of a record that was written. -/
theorem one_at {whole : Bool} {b pre post : List UInt8} {r : Rc} (hb : b = pre ++ (oneB whole r ++ post)) (ht : r.time < 2 ^ 64) (h1 : r.src.length ≤ 4000) (h2 : r.text.length ≤ 4000) : recR whole b pre.length = (bare whole r, pre.length + (oneB whole r).length, 0) := by
  cases whole with
  | false =>
    have hb1 : b = pre ++ (txtB r.src ++ (txtB r.text ++ post)) := by rw [hb]; simp [oneB]
    have e1 : srcR false b pre.length = (r.src, pre.length + (txtB r.src).length, 0) := text_at (most := 4000) hb1 h1 (by omega)
    have e2 : txtR false b pre.length = (r.text, pre.length + (txtB r.src).length + (txtB r.text).length, 0) := by
      unfold txtR
      rw [e1]
      dsimp only
      have := text_at (b := b) (pre := pre ++ txtB r.src) (post := post) (s := r.text) (most := 4000) (by rw [hb1]; simp) h2 (by omega)
      rw [List.length_append] at this
      exact this
    unfold recR
    rw [e1, e2]
    simp [timeR, lvR, bare, oneB]
    omega
  | true =>
    have hb1 : b = pre ++ (enc r.time ++ (r.lv :: (txtB r.src ++ (txtB r.text ++ post)))) := by rw [hb]; simp [oneB]
    have e1 : timeR true b pre.length = (r.time, pre.length + (enc r.time).length, 0) := num_at hb1 ht
    have e2 : lvR true b pre.length = (r.lv.toNat, pre.length + (enc r.time).length + 1, 0) := by
      unfold lvR
      rw [e1]
      dsimp only
      have := byte_at (b := b) (pre := pre ++ enc r.time) (c := r.lv) (post := txtB r.src ++ (txtB r.text ++ post)) (by rw [hb1]; simp)
      rw [List.length_append] at this
      rw [if_pos rfl]
      exact this
    have e3 : srcR true b pre.length = (r.src, pre.length + (enc r.time).length + 1 + (txtB r.src).length, 0) := by
      unfold srcR
      rw [e2]
      dsimp only
      have := text_at (b := b) (pre := pre ++ (enc r.time ++ [r.lv])) (post := txtB r.text ++ post) (s := r.src) (most := 4000) (by rw [hb1]; simp) h1 (by omega)
      simp only [List.length_append, List.length_singleton] at this
      rw [← Nat.add_assoc] at this
      exact this
    have e4 : txtR true b pre.length = (r.text, pre.length + (enc r.time).length + 1 + (txtB r.src).length + (txtB r.text).length, 0) := by
      unfold txtR
      rw [e3]
      dsimp only
      have := text_at (b := b) (pre := pre ++ (enc r.time ++ [r.lv] ++ txtB r.src)) (post := post) (s := r.text) (most := 4000) (by rw [hb1]; simp) h2 (by omega)
      simp only [List.length_append, List.length_singleton] at this
      rw [show pre.length + ((enc r.time).length + 1 + (txtB r.src).length) = pre.length + (enc r.time).length + 1 + (txtB r.src).length by omega] at this
      exact this
    unfold recR
    rw [e1, e2, e3, e4]
    simp [bare, oneB]
    omega
theorem one_pos (whole : Bool) (r : Rc) : 0 < (oneB whole r).length := by
  have := enc_pos r.src.length
  unfold oneB txtB
  simp only [List.length_append]
  omega
theorem bytes_len (whole : Bool) : ∀ l : List Rc, l.length ≤ (bytesB whole l).length
  | [] => by simp
  | r :: t => by
    have h1 := bytes_len whole t
    have h2 := one_pos whole r
    unfold bytesB at h1 ⊢
    rw [List.flatMap_cons, List.length_append, List.length_cons]
    omega
theorem read_from {whole : Bool} {b : List UInt8} : ∀ (f : Nat) (l : List Rc) (pre : List UInt8), l.length ≤ f → b = pre ++ bytesB whole l → (∀ r ∈ l, r.time < 2 ^ 64 ∧ r.src.length ≤ 4000 ∧ r.text.length ≤ 4000) → readF whole b f pre.length = (l.map (bare whole), 0)
  | 0, l, pre, hl, hb, h => by obtain rfl := List.eq_nil_of_length_eq_zero (by omega : l.length = 0); rfl
  | f + 1, [], pre, _, hb, _ => by
    rw [readF, if_pos (by rw [hb]; simp [bytesB])]
    rfl
  | f + 1, r :: t, pre, hl, hb, h => by
    have hr := h r (by simp)
    have hb1 : b = pre ++ (oneB whole r ++ bytesB whole t) := by rw [hb]; simp [bytesB]
    have h1 := one_at hb1 hr.1 hr.2.1 hr.2.2
    have hp := one_pos whole r
    have ih := read_from (whole := whole) (b := b) f t (pre ++ oneB whole r) (by simpa using hl) (by rw [hb1, List.append_assoc]) (fun x hx => h x (by simp [hx]))
    rw [List.length_append] at ih
    rw [readF, if_neg (by rw [hb1]; simp only [List.length_append]; omega), h1]
    dsimp only
    rw [if_neg (by simp), ih]
    simp
/-- What was written is read. -/
theorem read_back (whole : Bool) {l : List Rc} (h : ∀ r ∈ l, r.time < 2 ^ 64 ∧ r.src.length ≤ 4000 ∧ r.text.length ≤ 4000) : readE whole (bytesB whole l) = (l.map (bare whole), 0) := by
  have := read_from (whole := whole) (b := bytesB whole l) (bytesB whole l).length l [] (bytes_len whole l) (by simp) h
  simpa [readE] using this
end Rcs
end Go.Proofs.YtcphapdjimeoaaaGreat

namespace Go.Proofs.YtcphapdjimeoaaaGreat
namespace Wrd

/-- A letter, small; 0, if it is none. -/
def small (c : UInt8) : UInt8 := if (97 ≤ c.toNat ∧ c.toNat ≤ 122) ∨ (48 ≤ c.toNat ∧ c.toNat ≤ 57) then c else if 65 ≤ c.toNat ∧ c.toNat ≤ 90 then c + 32 else 0
def isL (c : UInt8) : Bool := !(small c == 0)
/-- The word that begins here, of at most m letters. -/
def wordR : Nat → List UInt8 → List UInt8
  | 0, _ => []
  | _ + 1, [] => []
  | m + 1, c :: t => if isL c = true then small c :: wordR m t else []
/-- The words of what is left, behind a letter or not. -/
def wordsF : Bool → List UInt8 → List (List UInt8)
  | _, [] => []
  | p, c :: t => (if isL c = true ∧ p = false then [wordR 24 (c :: t)] else []) ++ wordsF (isL c) t
def wordsE (l : List UInt8) : List (List UInt8) := wordsF false l
def oneE (l : List UInt8) : List UInt8 × Bool := if (1 ≤ l.length ∧ l.length ≤ 24) ∧ l.all isL = true then (l.map small, true) else ([], false)
def bareE (l : List UInt8) : List UInt8 := if l.head? = some 64 then l.tail else l
def termE (l : List UInt8) : Bool := (oneE (bareE l)).2 && decide ((oneE (bareE l)).1 = bareE l)
/-- A text put into a rising list. -/
def putT : List (List UInt8) → List UInt8 → List (List UInt8)
  | [], s => [s]
  | a :: t, s => if Op.bytesLess a s = true then a :: putT t s else if a = s then a :: t else s :: a :: t
def termsE (txt src : List UInt8) : List (List UInt8) := ((wordsE src).map fun w => 64 :: w).foldl putT ((wordsE txt).foldl putT [])

theorem all256 (p : UInt8 → Bool) (h : ∀ i : Fin 256, p (UInt8.ofFin i) = true) (c : UInt8) : p c = true := by
  have := h c.toFin
  simpa using this
theorem small_small (c : UInt8) : small (small c) = small c := by
  have := all256 (fun c => small (small c) == small c) (by decide +kernel) c
  simpa using this
theorem isL_small (c : UInt8) : isL (small c) = isL c := by unfold isL; rw [small_small]
theorem small_down (c : UInt8) (h1 : 97 ≤ c.toNat) (h2 : c.toNat ≤ 122) : small (c - 32) = small c := by
  have := all256 (fun c => !(decide (97 ≤ c.toNat) && decide (c.toNat ≤ 122)) || small (c - 32) == small c) (by decide +kernel) c
  simpa [h1, h2] using this
theorem small_up (c : UInt8) (h1 : 65 ≤ c.toNat) (h2 : c.toNat ≤ 90) : small (c + 32) = small c := by
  have := all256 (fun c => !(decide (65 ≤ c.toNat) && decide (c.toNat ≤ 90)) || small (c + 32) == small c) (by decide +kernel) c
  simpa [h1, h2] using this
theorem isL_at : isL 64 = false := by decide
theorem isL_iff {c : UInt8} : isL c = true ↔ small c ≠ 0 := by unfold isL; simp
theorem isL_no {c : UInt8} : isL c = false ↔ small c = 0 := by unfold isL; simp

theorem wordR_len : ∀ (m : Nat) (l : List UInt8), (wordR m l).length ≤ m
  | 0, _ => by simp [wordR]
  | _ + 1, [] => by simp [wordR]
  | m + 1, c :: t => by
    rw [wordR]
    split
    · have := wordR_len m t; simp; omega
    · simp
theorem wordR_small : ∀ (m : Nat) (l : List UInt8) (c : UInt8), c ∈ wordR m l → isL c = true ∧ small c = c
  | 0, _, c, h => by simp [wordR] at h
  | _ + 1, [], c, h => by simp [wordR] at h
  | m + 1, x :: t, c, h => by
    rw [wordR] at h
    split at h
    · rename_i hx
      rcases List.mem_cons.1 h with rfl | h
      · exact ⟨by rw [isL_small]; exact hx, small_small x⟩
      · exact wordR_small m t c h
    · simp at h
theorem wordR_map : ∀ (m : Nat) (l : List UInt8), wordR m (l.map small) = wordR m l
  | 0, _ => by simp [wordR]
  | _ + 1, [] => by simp [wordR]
  | m + 1, x :: t => by rw [List.map_cons, wordR, wordR, isL_small, small_small, wordR_map m t]
theorem wordR_stop {c : UInt8} (hc : isL c = false) (b : List UInt8) : ∀ (m : Nat) (a : List UInt8), wordR m (a ++ c :: b) = wordR m a
  | 0, _ => by simp [wordR]
  | _ + 1, [] => by simp [wordR, hc]
  | m + 1, x :: t => by rw [List.cons_append, wordR, wordR, wordR_stop hc b m t]
/-- Of a row of letters that are small. -/
theorem wordR_self : ∀ (m : Nat) (l : List UInt8), (∀ c, c ∈ l → isL c = true ∧ small c = c) → l.length ≤ m → wordR m l = l
  | 0, l, _, h => by obtain rfl := List.eq_nil_of_length_eq_zero (by omega : l.length = 0); simp [wordR]
  | _ + 1, [], _, _ => by simp [wordR]
  | m + 1, x :: t, h, hl => by
    have hx := h x (by simp)
    rw [wordR, if_pos hx.1, hx.2, wordR_self m t (fun c hc => h c (by simp [hc])) (by simpa using hl)]
theorem wordsF_map : ∀ (p : Bool) (l : List UInt8), wordsF p (l.map small) = wordsF p l
  | _, [] => by simp [wordsF]
  | p, x :: t => by
    rw [List.map_cons, wordsF, wordsF, isL_small, wordsF_map (isL x) t, ← List.map_cons, wordR_map]
theorem words_case {a b : List UInt8} (h : a.map small = b.map small) : wordsE a = wordsE b := by
  unfold wordsE
  rw [← wordsF_map false a, h, wordsF_map]
theorem wordsF_join {c : UInt8} (hc : isL c = false) (b : List UInt8) : ∀ (p : Bool) (a : List UInt8), wordsF p (a ++ c :: b) = wordsF p a ++ wordsF false b
  | p, [] => by rw [List.nil_append, wordsF, wordsF, hc]; simp
  | p, x :: t => by
    rw [List.cons_append, wordsF, wordsF, wordsF_join hc b (isL x) t, ← List.cons_append, wordR_stop hc b 24 (x :: t), List.append_assoc]
theorem words_join {c : UInt8} (hc : isL c = false) (a b : List UInt8) : wordsE (a ++ c :: b) = wordsE a ++ wordsE b := wordsF_join hc b false a
theorem wordsF_len : ∀ (p : Bool) (l : List UInt8), (wordsF p l).length ≤ l.length
  | _, [] => by simp [wordsF]
  | p, x :: t => by
    have := wordsF_len (isL x) t
    rw [wordsF]
    split <;> simp <;> omega
theorem words_len (l : List UInt8) : (wordsE l).length ≤ l.length := wordsF_len false l
/-- What a word is. -/
def Word (w : List UInt8) : Prop := (1 ≤ w.length ∧ w.length ≤ 24) ∧ ∀ c, c ∈ w → isL c = true ∧ small c = c
theorem wordsF_each : ∀ (p : Bool) (l : List UInt8) (w : List UInt8), w ∈ wordsF p l → Word w
  | _, [], w, h => by simp [wordsF] at h
  | p, x :: t, w, h => by
    rw [wordsF, List.mem_append] at h
    rcases h with h | h
    · split at h
      · rename_i hx
        rw [List.mem_singleton] at h
        subst h
        refine ⟨⟨?_, wordR_len 24 _⟩, fun c hc => wordR_small 24 _ c hc⟩
        rw [wordR, if_pos hx.1]
        simp
      · simp at h
    · exact wordsF_each _ t w h
theorem words_each {l w : List UInt8} (h : w ∈ wordsE l) : Word w := wordsF_each false l w h
theorem Word.all {w : List UInt8} (h : Word w) : w.all isL = true := List.all_eq_true.2 fun c hc => (h.2 c hc).1
theorem Word.one {w : List UInt8} (h : Word w) : oneE w = (w, true) := by
  unfold oneE
  rw [if_pos ⟨h.1, h.all⟩]
  have : w.map small = w := by
    conv => rhs; rw [← List.map_id w]
    exact List.map_congr_left fun c hc => (h.2 c hc).2
  rw [this]
theorem wordsF_letters : ∀ (l : List UInt8), (∀ c, c ∈ l → isL c = true) → wordsF true l = []
  | [], _ => by simp [wordsF]
  | x :: t, h => by
    rw [wordsF, if_neg (by simp), h x (by simp), wordsF_letters t (fun c hc => h c (by simp [hc]))]
    rfl
theorem Word.words {w : List UInt8} (h : Word w) : wordsE w = [w] := by
  cases w with
  | nil => have := h.1.1; simp at this
  | cons x t =>
    unfold wordsE
    rw [wordsF, if_pos ⟨(h.2 x (by simp)).1, rfl⟩, wordR_self 24 _ h.2 h.1.2, (h.2 x (by simp)).1, wordsF_letters t (fun c hc => (h.2 c (by simp [hc])).1), List.append_nil]
theorem Word.bare {w : List UInt8} (h : Word w) : bareE w = w := by
  unfold bareE
  cases w with
  | nil => simp
  | cons x t =>
    rw [if_neg]
    intro e
    simp at e
    have := (h.2 x (by simp)).1
    rw [e, isL_at] at this
    cases this
theorem Word.term {w : List UInt8} (h : Word w) : termE w = true := by unfold termE; rw [h.bare, h.one]; simp
theorem Word.termAt {w : List UInt8} (h : Word w) : termE (64 :: w) = true := by
  have : bareE (64 :: w) = w := by simp [bareE]
  unfold termE; rw [this, h.one]; simp

theorem less_self : ∀ (a : List UInt8), Op.bytesLess a a = false
  | [] => by simp [Op.bytesLess]
  | x :: t => by simp [Op.bytesLess, less_self t]
theorem less_trans : ∀ (a b c : List UInt8), Op.bytesLess a b = true → Op.bytesLess b c = true → Op.bytesLess a c = true
  | a, [], c, h, _ => by cases a <;> simp [Op.bytesLess] at h
  | a, _ :: _, [], _, h => by simp [Op.bytesLess] at h
  | [], _ :: _, _ :: _, _, _ => by simp [Op.bytesLess]
  | x :: a, y :: b, z :: c, h1, h2 => by
    simp only [Op.bytesLess, Bool.or_eq_true, Bool.and_eq_true, decide_eq_true_eq, beq_iff_eq] at h1 h2 ⊢
    rcases h1 with h1 | ⟨rfl, h1⟩
    · rcases h2 with h2 | ⟨rfl, h2⟩
      · exact .inl (UInt8.lt_trans h1 h2)
      · exact .inl h1
    · rcases h2 with h2 | ⟨rfl, h2⟩
      · exact .inl h2
      · exact .inr ⟨rfl, less_trans a b c h1 h2⟩
theorem less_total : ∀ (a b : List UInt8), Op.bytesLess a b = false → a ≠ b → Op.bytesLess b a = true
  | [], [], _, h => absurd rfl h
  | [], _ :: _, h, _ => by simp [Op.bytesLess] at h
  | _ :: _, [], _, _ => by simp [Op.bytesLess]
  | x :: a, y :: b, h1, h2 => by
    simp only [Op.bytesLess, Bool.or_eq_false_iff, Bool.and_eq_false_iff, decide_eq_false_iff_not, beq_eq_false_iff_ne] at h1
    simp only [Op.bytesLess, Bool.or_eq_true, Bool.and_eq_true, decide_eq_true_eq, beq_iff_eq]
    rcases UInt8.lt_or_eq_of_le (UInt8.not_lt.1 h1.1) with h | h
    · exact .inl h
    · subst h
      exact .inr ⟨rfl, less_total a b (h1.2.resolve_left (fun h => h rfl)) (fun e => h2 (by rw [e]))⟩
theorem mem_putT {s z : List UInt8} : ∀ {l : List (List UInt8)}, z ∈ putT l s ↔ z ∈ l ∨ z = s
  | [] => by simp [putT]
  | a :: t => by
    rw [putT]
    split
    · rw [List.mem_cons, mem_putT, List.mem_cons, or_assoc]
    · split
      · rename_i h; subst h; simp only [List.mem_cons]; constructor
        · exact .inl
        · rintro (h | h)
          · exact h
          · exact .inl h
      · simp only [List.mem_cons]; constructor
        · rintro (h | h | h)
          · exact .inr h
          · exact .inl (.inl h)
          · exact .inl (.inr h)
        · rintro ((h | h) | h)
          · exact .inr (.inl h)
          · exact .inr (.inr h)
          · exact .inl h
def Rising (l : List (List UInt8)) : Prop := l.Pairwise fun a b => Op.bytesLess a b = true
theorem rising_putT {s : List UInt8} : ∀ {l : List (List UInt8)}, Rising l → Rising (putT l s)
  | [], _ => by simp [putT, Rising]
  | a :: t, h => by
    have h' := List.pairwise_cons.1 h
    rw [putT]
    split
    · rename_i ha
      refine List.pairwise_cons.2 ⟨fun z hz => ?_, rising_putT h'.2⟩
      rcases mem_putT.1 hz with hz | rfl
      · exact h'.1 z hz
      · exact ha
    · split
      · exact h
      · rename_i ha hne
        have hs := less_total a s (by simpa using ha) hne
        refine List.pairwise_cons.2 ⟨fun z hz => ?_, h⟩
        rcases List.mem_cons.1 hz with rfl | hz
        · exact hs
        · exact less_trans s a z hs (h'.1 z hz)
theorem fold_facts : ∀ (l out : List (List UInt8)), Rising out → Rising (l.foldl putT out) ∧ ∀ z, z ∈ l.foldl putT out ↔ z ∈ out ∨ z ∈ l
  | [], out, h => ⟨h, fun z => by simp⟩
  | s :: l, out, h => by
    obtain ⟨h1, h2⟩ := fold_facts l (putT out s) (rising_putT h)
    refine ⟨h1, fun z => ?_⟩
    rw [List.foldl_cons, h2 z, mem_putT, List.mem_cons, or_assoc]
theorem putT_len (s : List UInt8) : ∀ (l : List (List UInt8)), (putT l s).length ≤ l.length + 1
  | [] => by simp [putT]
  | a :: t => by
    have := putT_len s t
    rw [putT]
    split
    · simp; omega
    · split <;> simp
theorem terms_rising (txt src : List UInt8) : Rising (termsE txt src) := (fold_facts _ _ (fold_facts _ [] List.Pairwise.nil).1).1
theorem mem_terms {txt src z : List UInt8} : z ∈ termsE txt src ↔ z ∈ wordsE txt ∨ ∃ w, w ∈ wordsE src ∧ z = 64 :: w := by
  unfold termsE
  rw [(fold_facts _ _ (fold_facts _ [] List.Pairwise.nil).1).2, (fold_facts _ [] List.Pairwise.nil).2, List.mem_map]
  simp only [List.not_mem_nil, false_or]
  constructor
  · rintro (h | ⟨w, h1, h2⟩)
    · exact .inl h
    · exact .inr ⟨w, h1, h2.symm⟩
  · rintro (h | ⟨w, h1, h2⟩)
    · exact .inl h
    · exact .inr ⟨w, h1, h2.symm⟩
theorem terms_term {txt src z : List UInt8} (h : z ∈ termsE txt src) : termE z = true := by
  rcases mem_terms.1 h with h | ⟨w, h2, rfl⟩
  · exact (words_each h).term
  · exact (words_each h2).termAt
theorem example15 : wordsE [71, 69, 84, 32, 47, 97, 45, 98, 32, 72, 84, 84, 80, 32, 50, 48, 48] = [[103, 101, 116], [97], [98], [104, 116, 116, 112], [50, 48, 48]] := by decide +kernel
end Wrd
end Go.Proofs.YtcphapdjimeoaaaGreat

namespace Go.Proofs.YtcphapdjimeoaaaGreat
namespace Dic
open Num Wrd

/-- How many bytes two texts begin with alike. -/
def alike : List UInt8 → List UInt8 → Nat
  | a :: s, b :: t => if a = b then alike s t + 1 else 0
  | _, _ => 0
def risesB : List (List UInt8) → Bool
  | a :: b :: t => Op.bytesLess a b && risesB (b :: t)
  | _ => true
def fits (s : List UInt8) : Bool := decide (1 ≤ s.length ∧ s.length ≤ 25)
/-- Are texts a row? -/
def mayD (l : List (List UInt8)) : Bool := decide (l.length ≤ 1048576) && l.all fits && risesB l
def textB (s : List UInt8) : List UInt8 := enc s.length ++ s
def itemB (was s : List UInt8) : List UInt8 := enc (alike was s) ++ textB (s.drop (alike was s))
def tailB : List UInt8 → List (List UInt8) → List UInt8
  | _, [] => []
  | was, s :: t => itemB was s ++ tailB s t
def bucketB : List (List UInt8) → List UInt8
  | [] => []
  | s :: t => textB s ++ tailB s t
/-- The buckets of a row; f: how many there may be. -/
def chunks (size : Nat) : Nat → List (List UInt8) → List (List (List UInt8))
  | 0, _ => []
  | f + 1, l => if l = [] then [] else l.take size :: chunks size f (l.drop size)
def bucketsOf (size : Nat) (l : List (List UInt8)) : List (List (List UInt8)) := chunks size l.length l
def headB (bs : List (List (List UInt8))) : List UInt8 := bs.flatMap fun p => enc (bucketB p).length
def bodyB (bs : List (List (List UInt8))) : List UInt8 := bs.flatMap bucketB
def dictB (size : Nat) (l : List (List UInt8)) : List UInt8 := enc l.length ++ headB (bucketsOf size l) ++ bodyB (bucketsOf size l)
def writeE (size : Int) (l : List (List UInt8)) : List UInt8 × Int := if size < 1 ∨ 64 < size ∨ mayD l = false then ([], 13) else (dictB size.toNat l, 0)

/-- The sizes of m buckets, from the place q on. -/
def sizesR (b : List UInt8) : Nat → Nat → List Nat × Nat × Int
  | 0, q => ([], q, 0)
  | m + 1, q => if (intR b q 0 2000).2.2 ≠ 0 then ([], 0, (intR b q 0 2000).2.2) else
      if (sizesR b m (intR b q 0 2000).2.1).2.2 ≠ 0 then ([], 0, (sizesR b m (intR b q 0 2000).2.1).2.2) else ((intR b q 0 2000).1 :: (sizesR b m (intR b q 0 2000).2.1).1, (sizesR b m (intR b q 0 2000).2.1).2.1, 0)
/-- How many bytes are the same, of a text that isn't the first one of its bucket. -/
def sameR (p : List UInt8) (first : Bool) (was : List UInt8) (q : Nat) : Nat × Nat × Int := if first = true then (0, q, 0) else intR p q 0 (was.length : Int)
/-- One text within a bucket's bytes: the text, the place behind it, an error. -/
def oneR (p : List UInt8) (first : Bool) (was : List UInt8) (q : Nat) : List UInt8 × Nat × Int :=
  if (textR p (sameR p first was q).2.1 (sameR p first was q).2.2 25).2.2 ≠ 0 then ([], 0, (textR p (sameR p first was q).2.1 (sameR p first was q).2.2 25).2.2) else
  if (textR p (sameR p first was q).2.1 (sameR p first was q).2.2 25).1 = [] ∨ 25 < (was.take (sameR p first was q).1 ++ (textR p (sameR p first was q).2.1 (sameR p first was q).2.2 25).1).length ∨
      Op.bytesLess was (was.take (sameR p first was q).1 ++ (textR p (sameR p first was q).2.1 (sameR p first was q).2.2 25).1) = false ∨
      (first = false ∧ alike was (was.take (sameR p first was q).1 ++ (textR p (sameR p first was q).2.1 (sameR p first was q).2.2 25).1) ≠ (sameR p first was q).1) then ([], 0, 2)
  else (was.take (sameR p first was q).1 ++ (textR p (sameR p first was q).2.1 (sameR p first was q).2.2 25).1, (textR p (sameR p first was q).2.1 (sameR p first was q).2.2 25).2.1, 0)
/-- k texts within a bucket's bytes. -/
def textsR (p : List UInt8) : Nat → Bool → List UInt8 → Nat → List (List UInt8) × Nat × Int
  | 0, _, _, q => ([], q, 0)
  | k + 1, first, was, q => if (oneR p first was q).2.2 ≠ 0 then ([], 0, (oneR p first was q).2.2) else
      if (textsR p k false (oneR p first was q).1 (oneR p first was q).2.1).2.2 ≠ 0 then ([], 0, (textsR p k false (oneR p first was q).1 (oneR p first was q).2.1).2.2)
      else ((oneR p first was q).1 :: (textsR p k false (oneR p first was q).1 (oneR p first was q).2.1).1, (textsR p k false (oneR p first was q).1 (oneR p first was q).2.1).2.1, 0)
/-- One bucket's bytes, all of them: k texts, and nothing behind. -/
def partR (p : List UInt8) (k : Nat) (was : List UInt8) : List (List UInt8) × Int :=
  if (textsR p k true was 0).2.2 ≠ 0 then ([], (textsR p k true was 0).2.2) else if (textsR p k true was 0).2.1 < p.length then ([], 2) else ((textsR p k true was 0).1, 0)
/-- The buckets, one by one; left: how many texts are to come. -/
def partsR (b : List UInt8) (size : Nat) : List Nat → Nat → List UInt8 → Nat → List (List UInt8) × Nat × Int
  | [], _, _, q => ([], q, 0)
  | z :: zs, left, was, q => if (takeR b q 0 (z : Int)).2.2 ≠ 0 then ([], 0, (takeR b q 0 (z : Int)).2.2) else
      if (partR (takeR b q 0 (z : Int)).1 (min size left) was).2 ≠ 0 then ([], 0, (partR (takeR b q 0 (z : Int)).1 (min size left) was).2) else
      if (partsR b size zs (left - min size left) ((partR (takeR b q 0 (z : Int)).1 (min size left) was).1.getLastD was) (takeR b q 0 (z : Int)).2.1).2.2 ≠ 0 then ([], 0, (partsR b size zs (left - min size left) ((partR (takeR b q 0 (z : Int)).1 (min size left) was).1.getLastD was) (takeR b q 0 (z : Int)).2.1).2.2)
      else ((partR (takeR b q 0 (z : Int)).1 (min size left) was).1 ++ (partsR b size zs (left - min size left) ((partR (takeR b q 0 (z : Int)).1 (min size left) was).1.getLastD was) (takeR b q 0 (z : Int)).2.1).1, (partsR b size zs (left - min size left) ((partR (takeR b q 0 (z : Int)).1 (min size left) was).1.getLastD was) (takeR b q 0 (z : Int)).2.1).2.1, 0)
/-- How many buckets n texts are in. -/
def bucketsN (size n : Nat) : Nat := (n + size - 1) / size
def readR (b : List UInt8) (size : Nat) : List (List UInt8) × Nat × Int :=
  if (intR b 0 0 1048576).2.2 ≠ 0 then ([], 0, (intR b 0 0 1048576).2.2) else
  if (sizesR b (bucketsN size (intR b 0 0 1048576).1) (intR b 0 0 1048576).2.1).2.2 ≠ 0 then ([], 0, (sizesR b (bucketsN size (intR b 0 0 1048576).1) (intR b 0 0 1048576).2.1).2.2) else
  if (partsR b size (sizesR b (bucketsN size (intR b 0 0 1048576).1) (intR b 0 0 1048576).2.1).1 (intR b 0 0 1048576).1 [] (sizesR b (bucketsN size (intR b 0 0 1048576).1) (intR b 0 0 1048576).2.1).2.1).2.2 ≠ 0 then ([], 0, (partsR b size (sizesR b (bucketsN size (intR b 0 0 1048576).1) (intR b 0 0 1048576).2.1).1 (intR b 0 0 1048576).1 [] (sizesR b (bucketsN size (intR b 0 0 1048576).1) (intR b 0 0 1048576).2.1).2.1).2.2)
  else partsR b size (sizesR b (bucketsN size (intR b 0 0 1048576).1) (intR b 0 0 1048576).2.1).1 (intR b 0 0 1048576).1 [] (sizesR b (bucketsN size (intR b 0 0 1048576).1) (intR b 0 0 1048576).2.1).2.1
def readE (b : List UInt8) (size : Int) : List (List UInt8) × Nat × Int := if size < 1 ∨ 64 < size then ([], 0, 13) else readR b size.toNat

theorem alike_le : ∀ (a b : List UInt8), alike a b ≤ a.length ∧ alike a b ≤ b.length
  | [], _ => by simp [alike]
  | _ :: _, [] => by simp [alike]
  | a :: s, b :: t => by
    have := alike_le s t
    rw [alike]
    split <;> simp <;> omega
theorem alike_take : ∀ (a b : List UInt8), a.take (alike a b) = b.take (alike a b)
  | [], _ => by simp [alike]
  | _ :: _, [] => by simp [alike]
  | a :: s, b :: t => by
    rw [alike]
    split
    · rename_i h
      rw [List.take_succ_cons, List.take_succ_cons, h, alike_take s t]
    · simp
/-- A text that lies above another one isn't its beginning. -/
theorem alike_less : ∀ (a b : List UInt8), Op.bytesLess a b = true → alike a b < b.length
  | _, [], h => by rename_i a; cases a <;> simp [Op.bytesLess] at h
  | [], _ :: _, _ => by simp [alike]
  | a :: s, b :: t, h => by
    rw [alike]
    split
    · rename_i e
      subst e
      have : Op.bytesLess s t = true := by simpa [Op.bytesLess] using h
      have := alike_less s t this
      simp; omega
    · simp
/-- What is the same, and what is behind it, make the text. -/
theorem alike_back (a b : List UInt8) : a.take (alike a b) ++ b.drop (alike a b) = b := by rw [alike_take, List.take_append_drop]
theorem rises_tail {a : List UInt8} {l : List (List UInt8)} (h : risesB (a :: l) = true) : risesB l = true := by
  cases l with
  | nil => rfl
  | cons b t => rw [risesB, Bool.and_eq_true] at h; exact h.2
theorem rises_iff : ∀ (l : List (List UInt8)), risesB l = true ↔ Rising l
  | [] => by simp [risesB, Rising]
  | [a] => by simp [risesB, Rising]
  | a :: b :: t => by
    rw [risesB, Bool.and_eq_true, rises_iff (b :: t)]
    unfold Rising
    constructor
    · rintro ⟨h1, h2⟩
      refine List.pairwise_cons.2 ⟨fun z hz => ?_, h2⟩
      rcases List.mem_cons.1 hz with rfl | hz
      · exact h1
      · exact less_trans a b z h1 ((List.pairwise_cons.1 h2).1 z hz)
    · intro h
      exact ⟨(List.pairwise_cons.1 h).1 b (by simp), (List.pairwise_cons.1 h).2⟩
theorem may_facts {l : List (List UInt8)} (h : mayD l = true) : l.length ≤ 1048576 ∧ (∀ s, s ∈ l → 1 ≤ s.length ∧ s.length ≤ 25) ∧ Rising l := by
  unfold mayD at h
  rw [Bool.and_eq_true, Bool.and_eq_true, decide_eq_true_eq, List.all_eq_true, rises_iff] at h
  exact ⟨h.1.1, fun s hs => by simpa [fits] using h.1.2 s hs, h.2⟩
theorem may_of {l : List (List UInt8)} (h1 : l.length ≤ 1048576) (h2 : ∀ s, s ∈ l → 1 ≤ s.length ∧ s.length ≤ 25) (h3 : Rising l) : mayD l = true := by
  unfold mayD
  rw [Bool.and_eq_true, Bool.and_eq_true, decide_eq_true_eq, List.all_eq_true, rises_iff]
  exact ⟨⟨h1, fun s hs => by simpa [fits] using h2 s hs⟩, h3⟩
theorem example16 : writeE 2 [[100, 105, 115, 107], [100, 105, 115, 107, 115], [102, 117, 108, 108]] = ([3, 8, 5, 4, 100, 105, 115, 107, 4, 1, 115, 4, 102, 117, 108, 108], 0) := by decide +kernel
end Dic
end Go.Proofs.YtcphapdjimeoaaaGreat

namespace Go.Proofs.YtcphapdjimeoaaaGreat
namespace Dic
open Num Wrd

theorem enc_small {x : Nat} (h : x < 128) : (enc x).length = 1 := by unfold enc; rw [encF_small h]; rfl
theorem int_at {b pre post : List UInt8} {x : Nat} {most : Int} (hb : b = pre ++ (enc x ++ post)) (hx : x < 2 ^ 64) (hm : (x : Int) ≤ most) : intR b pre.length 0 most = (x, pre.length + (enc x).length, 0) := by
  have h := scan_enc pre post x hx
  rw [List.append_assoc, ← hb] at h
  unfold intR numR
  rw [if_pos rfl, h]
  dsimp only
  rw [if_pos rfl, if_neg (by omega)]
theorem text_at {b pre post s : List UInt8} (hb : b = pre ++ (textB s ++ post)) (hs : s.length ≤ 25) : textR b pre.length 0 25 = (s, pre.length + (textB s).length, 0) := by
  have h1 : intR b pre.length 0 25 = (s.length, pre.length + (enc s.length).length, 0) := int_at (post := s ++ post) (by rw [hb, textB, List.append_assoc]) (by omega) (by omega)
  have hl : b.length = pre.length + ((enc s.length).length + s.length) + post.length := by rw [hb, textB]; simp; omega
  have hd : (b.drop (pre.length + (enc s.length).length)).take s.length = s := by
    rw [hb, textB, ← List.append_assoc, ← List.append_assoc, List.append_assoc _ s post, List.drop_left' (by simp)]
    simp
  unfold textR
  rw [h1]
  dsimp only
  rw [if_pos rfl, if_neg (by omega)]
  unfold takeR
  rw [if_pos rfl, if_neg (by omega), if_neg (by omega), Int.toNat_natCast, hd, textB, List.length_append]
  congr 2
  omega
theorem one_first {p pre post was s : List UInt8} (hp : p = pre ++ (textB s ++ post)) (h1 : 1 ≤ s.length ∧ s.length ≤ 25) (hw : Op.bytesLess was s = true) : oneR p true was pre.length = (s, pre.length + (textB s).length, 0) := by
  have ht := text_at hp h1.2
  unfold oneR sameR
  rw [if_pos rfl]
  dsimp only
  rw [ht]
  dsimp only
  rw [if_neg (by simp), List.take_zero, List.nil_append, if_neg]
  rintro (h | h | h | ⟨h, _⟩)
  · rw [h] at h1; simp at h1
  · omega
  · rw [hw] at h; cases h
  · cases h
theorem one_next {p pre post was s : List UInt8} (hp : p = pre ++ (itemB was s ++ post)) (hwl : was.length ≤ 25) (h1 : 1 ≤ s.length ∧ s.length ≤ 25) (hw : Op.bytesLess was s = true) : oneR p false was pre.length = (s, pre.length + (itemB was s).length, 0) := by
  have hal := alike_le was s
  have hlt := alike_less was s hw
  have hi : intR p pre.length 0 (was.length : Int) = (alike was s, pre.length + (enc (alike was s)).length, 0) :=
    int_at (post := textB (s.drop (alike was s)) ++ post) (by rw [hp, itemB, List.append_assoc]) (by omega) (by omega)
  have ht : textR p (pre.length + (enc (alike was s)).length) 0 25 = (s.drop (alike was s), pre.length + (enc (alike was s)).length + (textB (s.drop (alike was s))).length, 0) := by
    have := text_at (pre := pre ++ enc (alike was s)) (post := post) (b := p) (s := s.drop (alike was s)) (by rw [hp, itemB]; simp) (by rw [List.length_drop]; omega)
    rw [List.length_append] at this
    exact this
  have hsr : sameR p false was pre.length = (alike was s, pre.length + (enc (alike was s)).length, 0) := by
    unfold sameR
    rw [if_neg (by simp)]
    exact hi
  unfold oneR
  rw [hsr]
  dsimp only
  rw [ht]
  dsimp only
  rw [if_neg (by simp), alike_back, if_neg]
  · rw [itemB, List.length_append, Nat.add_assoc]
  · rintro (h | h | h | ⟨_, h⟩)
    · have := congrArg List.length h
      rw [List.length_drop, List.length_nil] at this
      omega
    · omega
    · rw [hw] at h; cases h
    · exact h rfl
/-- Texts that rise above was. -/
def Above (was : List UInt8) (l : List (List UInt8)) : Prop := Rising (was :: l) ∧ ∀ s, s ∈ l → 1 ≤ s.length ∧ s.length ≤ 25
theorem Above.head {was s : List UInt8} {t : List (List UInt8)} (h : Above was (s :: t)) : Op.bytesLess was s = true ∧ (1 ≤ s.length ∧ s.length ≤ 25) ∧ Above s t := by
  have h1 := List.pairwise_cons.1 h.1
  exact ⟨h1.1 s (by simp), h.2 s (by simp), h1.2, fun x hx => h.2 x (by simp [hx])⟩
theorem texts_next {p : List UInt8} : ∀ (t : List (List UInt8)) (was pre post : List UInt8), p = pre ++ (tailB was t ++ post) → was.length ≤ 25 → Above was t → textsR p t.length false was pre.length = (t, pre.length + (tailB was t).length, 0)
  | [], was, pre, post, _, _, _ => by simp [textsR, tailB]
  | s :: t, was, pre, post, hp, hw, ha => by
    obtain ⟨h1, h2, h3⟩ := ha.head
    have ho := one_next (p := p) (pre := pre) (post := tailB s t ++ post) (by rw [hp, tailB, List.append_assoc]) hw h2 h1
    have hr := texts_next (p := p) t s (pre ++ itemB was s) post (by rw [hp, tailB]; simp) h2.2 h3
    rw [List.length_append] at hr
    rw [List.length_cons, textsR, ho]
    dsimp only
    rw [if_neg (by simp), hr]
    dsimp only
    rw [if_neg (by simp), tailB, List.length_append, Nat.add_assoc]
theorem part_at {c : List (List UInt8)} {was : List UInt8} (hne : c ≠ []) (ha : Above was c) : partR (bucketB c) c.length was = (c, 0) := by
  cases c with
  | nil => exact absurd rfl hne
  | cons s t =>
    obtain ⟨h1, h2, h3⟩ := ha.head
    have ho : oneR (bucketB (s :: t)) true was 0 = (s, (textB s).length, 0) := by
      have := one_first (pre := []) (post := tailB s t) (p := bucketB (s :: t)) (was := was) (by rw [bucketB]; rfl) h2 h1
      simpa using this
    have hr := texts_next (p := bucketB (s :: t)) t s (textB s) [] (by rw [bucketB]; simp) h2.2 h3
    have hl : (bucketB (s :: t)).length = (textB s).length + (tailB s t).length := by rw [bucketB, List.length_append]
    have ht : textsR (bucketB (s :: t)) (t.length + 1) true was 0 = (s :: t, (bucketB (s :: t)).length, 0) := by
      rw [textsR, ho]
      dsimp only
      rw [if_neg (by simp), hr]
      dsimp only
      rw [if_neg (by simp), hl]
    unfold partR
    rw [List.length_cons, ht]
    dsimp only
    rw [if_neg (by simp), if_neg (by omega)]
theorem tail_len : ∀ (t : List (List UInt8)) (was : List UInt8), was.length ≤ 25 → (∀ s, s ∈ t → s.length ≤ 25) → (tailB was t).length ≤ 27 * t.length
  | [], _, _, _ => by simp [tailB]
  | s :: t, was, hw, h => by
    have h1 := tail_len t s (h s (by simp)) (fun x hx => h x (by simp [hx]))
    have h2 := h s (by simp)
    have h3 := alike_le was s
    have e1 := enc_small (show alike was s < 128 by omega)
    have e2 := enc_small (show (s.drop (alike was s)).length < 128 by rw [List.length_drop]; omega)
    rw [tailB, itemB, textB, List.length_append, List.length_append, List.length_append, e1, e2, List.length_drop, List.length_cons]
    omega
theorem bucket_len {c : List (List UInt8)} (h : ∀ s, s ∈ c → s.length ≤ 25) : (bucketB c).length ≤ 27 * c.length := by
  cases c with
  | nil => simp [bucketB]
  | cons s t =>
    have h1 := tail_len t s (h s (by simp)) (fun x hx => h x (by simp [hx]))
    have h2 := h s (by simp)
    have e2 := enc_small (show s.length < 128 by omega)
    rw [bucketB, textB, List.length_append, List.length_append, e2, List.length_cons]
    omega
theorem sizes_at {b : List UInt8} : ∀ (bs : List (List (List UInt8))) (pre post : List UInt8), b = pre ++ (headB bs ++ post) → (∀ c, c ∈ bs → (bucketB c).length ≤ 2000) → sizesR b bs.length pre.length = (bs.map fun c => (bucketB c).length, pre.length + (headB bs).length, 0)
  | [], pre, post, _, _ => by simp [sizesR, headB]
  | c :: bs, pre, post, hb, h => by
    have hc := h c (by simp)
    have hh : headB (c :: bs) = enc (bucketB c).length ++ headB bs := by simp [headB]
    have hi := int_at (b := b) (pre := pre) (most := 2000) (post := headB bs ++ post) (x := (bucketB c).length) (by rw [hb, hh, List.append_assoc]) (by omega) (by omega)
    have hr := sizes_at (b := b) bs (pre ++ enc (bucketB c).length) post (by rw [hb, hh]; simp) (fun x hx => h x (by simp [hx]))
    rw [List.length_append] at hr
    rw [List.length_cons, sizesR, hi]
    dsimp only
    rw [if_neg (by simp), hr]
    dsimp only
    rw [if_neg (by simp), hh, List.length_append, Nat.add_assoc]
    rfl
theorem getLastD_mem : ∀ {c : List (List UInt8)} {was : List UInt8}, c ≠ [] → c.getLastD was ∈ c
  | [], _, h => absurd rfl h
  | [a], _, _ => by simp
  | a :: b :: t, _, _ => by
    rw [List.getLastD_cons]
    exact List.mem_cons_of_mem _ (getLastD_mem (c := b :: t) (was := a) (by simp))
theorem Above.split {was : List UInt8} {c d : List (List UInt8)} (h : Above was (c ++ d)) (hne : c ≠ []) : Above was c ∧ Above (c.getLastD was) d := by
  have h1 := List.pairwise_cons.1 h.1
  have h2 := List.pairwise_append.1 h1.2
  refine ⟨⟨List.pairwise_cons.2 ⟨fun x hx => h1.1 x (by simp [hx]), h2.1⟩, fun s hs => h.2 s (by simp [hs])⟩, List.pairwise_cons.2 ⟨fun x hx => h2.2.2 _ (getLastD_mem hne) x hx, h2.2.1⟩, fun s hs => h.2 s (by simp [hs])⟩
theorem parts_at {b : List UInt8} {size : Nat} (hs : 1 ≤ size) : ∀ (f : Nat) (l : List (List UInt8)) (was pre post : List UInt8), l.length ≤ f → b = pre ++ (bodyB (chunks size f l) ++ post) → Above was l →
    partsR b size ((chunks size f l).map fun c => (bucketB c).length) l.length was pre.length = (l, pre.length + (bodyB (chunks size f l)).length, 0)
  | 0, l, was, pre, post, hl, _, _ => by
    obtain rfl := List.eq_nil_of_length_eq_zero (by omega : l.length = 0)
    simp [chunks, partsR, bodyB]
  | f + 1, l, was, pre, post, hl, hb, ha => by
    by_cases hn : l = []
    · subst hn
      simp [chunks, partsR, bodyB]
    · have hc : chunks size (f + 1) l = l.take size :: chunks size f (l.drop size) := by rw [chunks, if_neg hn]
      have h0 : 0 < l.length := by cases l with | nil => exact absurd rfl hn | cons _ _ => simp
      have hne : l.take size ≠ [] := fun h => by
        have := congrArg List.length h
        rw [List.length_take, List.length_nil] at this
        omega
      have hsp := Above.split (c := l.take size) (d := l.drop size) (by rw [List.take_append_drop]; exact ha) hne
      have hbb : bodyB (l.take size :: chunks size f (l.drop size)) = bucketB (l.take size) ++ bodyB (chunks size f (l.drop size)) := by simp [bodyB]
      rw [hc, hbb] at hb
      have ht : takeR b pre.length 0 ((bucketB (l.take size)).length : Int) = (bucketB (l.take size), pre.length + (bucketB (l.take size)).length, 0) := by
        have hbl : b.length = pre.length + ((bucketB (l.take size)).length + (bodyB (chunks size f (l.drop size))).length) + post.length := by rw [hb]; simp; omega
        unfold takeR
        rw [if_pos rfl, if_neg (by omega), if_neg (by omega), Int.toNat_natCast]
        congr 1
        rw [hb, List.drop_left, List.append_assoc, List.take_left]
      have hp := part_at hne hsp.1
      rw [List.length_take] at hp
      have hr := parts_at (b := b) hs f (l.drop size) ((l.take size).getLastD was) (pre ++ bucketB (l.take size)) post (by rw [List.length_drop]; omega) (by rw [hb]; simp) hsp.2
      rw [List.length_drop, List.length_append] at hr
      rw [hc, List.map_cons, partsR, ht]
      dsimp only
      rw [if_neg (by simp), hp]
      dsimp only
      rw [if_neg (by simp), show l.length - min size l.length = l.length - size by omega, hr]
      dsimp only
      rw [if_neg (by simp), List.take_append_drop, hbb, List.length_append, Nat.add_assoc]
theorem chunks_len {size : Nat} (hs : 1 ≤ size) : ∀ (f : Nat) (l : List (List UInt8)), l.length ≤ f → (chunks size f l).length = bucketsN size l.length
  | 0, l, hl => by
    obtain rfl := List.eq_nil_of_length_eq_zero (by omega : l.length = 0)
    simp only [chunks, bucketsN, List.length_nil]
    exact (Nat.div_eq_of_lt (by omega)).symm
  | f + 1, l, hl => by
    by_cases hn : l = []
    · subst hn
      simp only [chunks, bucketsN, List.length_nil, if_pos]
      exact (Nat.div_eq_of_lt (by omega)).symm
    · have h0 : 0 < l.length := by cases l with | nil => exact absurd rfl hn | cons _ _ => simp
      rw [chunks, if_neg hn, List.length_cons, chunks_len hs f (l.drop size) (by rw [List.length_drop]; omega), List.length_drop]
      unfold bucketsN
      rcases Nat.lt_or_ge l.length size with h | h
      · rw [show l.length - size + size - 1 = size - 1 by omega, Nat.div_eq_of_lt (by omega), show l.length + size - 1 = size + (l.length - 1) by omega, Nat.add_div_left _ (by omega), Nat.div_eq_of_lt (by omega)]
      · rw [show l.length + size - 1 = (l.length - size + size - 1) + size by omega, Nat.add_div_right _ (by omega)]
theorem chunks_fit {size : Nat} (hs : size ≤ 64) : ∀ (f : Nat) (l : List (List UInt8)), (∀ s, s ∈ l → s.length ≤ 25) → ∀ c, c ∈ chunks size f l → (bucketB c).length ≤ 2000
  | 0, _, _, c, hc => by simp [chunks] at hc
  | f + 1, l, h, c, hc => by
    rw [chunks] at hc
    split at hc
    · simp at hc
    · rcases List.mem_cons.1 hc with rfl | hc
      · have := bucket_len (c := l.take size) (fun s hs => h s (List.mem_of_mem_take hs))
        rw [List.length_take] at this
        omega
      · exact chunks_fit hs f (l.drop size) (fun s hs => h s (List.mem_of_mem_drop hs)) c hc
/-- What was written is read, whatever stands behind it. -/
theorem read_back {size : Nat} (h1 : 1 ≤ size) (h2 : size ≤ 64) {l : List (List UInt8)} (hm : mayD l = true) (more : List UInt8) : readR (dictB size l ++ more) size = (l, (dictB size l).length, 0) := by
  obtain ⟨m1, m2, m3⟩ := may_facts hm
  have hab : Above [] l := ⟨List.pairwise_cons.2 ⟨fun s hs => by
    have := (m2 s hs).1
    cases s with
    | nil => simp at this
    | cons _ _ => rfl, m3⟩, m2⟩
  have hi : intR (dictB size l ++ more) 0 0 1048576 = (l.length, (enc l.length).length, 0) := by
    have := int_at (pre := []) (most := 1048576) (x := l.length) (b := dictB size l ++ more) (post := headB (bucketsOf size l) ++ bodyB (bucketsOf size l) ++ more) (by rw [dictB]; simp) (by omega) (by omega)
    simpa using this
  have hz := sizes_at (b := dictB size l ++ more) (bucketsOf size l) (enc l.length) (bodyB (bucketsOf size l) ++ more) (by rw [dictB]; simp) (chunks_fit h2 _ l (fun s hs => (m2 s hs).2))
  rw [show (bucketsOf size l).length = bucketsN size l.length from chunks_len h1 _ l (Nat.le_refl _)] at hz
  have hp := parts_at (b := dictB size l ++ more) h1 l.length l [] (enc l.length ++ headB (bucketsOf size l)) more (Nat.le_refl _) (by rw [dictB, bucketsOf]; simp) hab
  rw [List.length_append] at hp
  unfold readR
  rw [hi]
  dsimp only
  rw [if_neg (by simp), hz]
  dsimp only
  rw [if_neg (by simp)]
  unfold bucketsOf at *
  rw [hp]
  dsimp only
  rw [if_neg (by simp), dictB, bucketsOf, List.length_append, List.length_append]
end Dic
end Go.Proofs.YtcphapdjimeoaaaGreat

namespace Go.Proofs.YtcphapdjimeoaaaGreat
namespace Dic
open Num Wrd

/-- The bytes from q up to q'. -/
def seg (b : List UInt8) (q q' : Nat) : List UInt8 := (b.drop q).take (q' - q)
theorem seg_app {b : List UInt8} {q r s : Nat} (h1 : q ≤ r) (h2 : r ≤ s) : seg b q r ++ seg b r s = seg b q s := by
  unfold seg
  have : b.drop r = (b.drop q).drop (r - q) := by rw [List.drop_drop, show q + (r - q) = r by omega]
  rw [this, show s - q = (r - q) + (s - r) by omega, List.take_add]
theorem seg_nil (b : List UInt8) (q : Nat) : seg b q q = [] := by simp [seg]
theorem int_is {b : List UInt8} {q x q' : Nat} {most : Int} (h : intR b q 0 most = (x, q', 0)) : (x : Int) ≤ most ∧ q ≤ q' ∧ q' ≤ b.length ∧ enc x = seg b q q' := by
  have hs : scan b q = (x, q', 0) := by
    unfold intR numR at h
    rw [if_pos rfl] at h
    by_cases h1 : (scan b q).2.2 = 0
    · rw [if_pos h1] at h
      by_cases h2 : most < ((scan b q).1 : Int)
      · rw [if_pos h2] at h; simp at h
      · rw [if_neg h2] at h; exact h
    · rw [if_neg h1] at h
      simp only [Prod.mk.injEq] at h
      exact absurd h.2.2 h1
  have hm : (x : Int) ≤ most := by
    unfold intR numR at h
    rw [if_pos rfl, hs] at h
    dsimp only at h
    rw [if_pos rfl] at h
    by_cases h2 : most < (x : Int)
    · rw [if_pos h2] at h; simp at h
    · omega
  obtain ⟨y, hv, ht, _, h1, h2⟩ := scanF_one b q 10 0 0 x q' hs
  simp only [Nat.pow_zero, Nat.mul_one, Nat.zero_add, Nat.add_zero] at hv ht h1
  subst hv
  exact ⟨hm, by omega, h2, ht.symm⟩
theorem take_is {b x : List UInt8} {q n q' : Nat} (h : takeR b q 0 (n : Int) = (x, q', 0)) : q' = q + n ∧ (n = 0 ∨ q' ≤ b.length) ∧ x = seg b q q' ∧ x.length = n := by
  unfold takeR at h
  rw [if_pos rfl, if_neg (by omega)] at h
  by_cases h1 : ((b.length - q : Nat) : Int) < (n : Int)
  · rw [if_pos h1] at h; simp at h
  · rw [if_neg h1, Int.toNat_natCast] at h
    simp only [Prod.mk.injEq] at h
    refine ⟨h.2.1.symm, by omega, ?_, ?_⟩
    · rw [← h.1, ← h.2.1, seg, show q + n - q = n by omega]
    · rw [← h.1, List.length_take, List.length_drop]; omega
theorem text_is {b s : List UInt8} {q q' : Nat} (h : textR b q 0 25 = (s, q', 0)) : s.length ≤ 25 ∧ q ≤ q' ∧ q' ≤ b.length ∧ textB s = seg b q q' := by
  unfold textR at h
  by_cases h1 : (intR b q 0 25).2.2 = 0
  · obtain ⟨x, q1, e, hx⟩ : ∃ x q1 e, intR b q 0 25 = (x, q1, e) := ⟨_, _, _, rfl⟩
    rw [hx] at h h1
    dsimp only at h h1
    subst h1
    obtain ⟨i1, i2, i3, i4⟩ := int_is hx
    rw [if_pos rfl] at h
    by_cases h2 : b.length - q1 < x
    · rw [if_pos h2] at h; simp at h
    · rw [if_neg h2] at h
      obtain ⟨t1, t2, t3, t4⟩ := take_is h
      refine ⟨by omega, by omega, by omega, ?_⟩
      rw [textB, t4, i4, t3, seg_app i2 (by omega)]
  · rw [if_neg h1] at h
    simp only [Prod.mk.injEq] at h
    exact absurd (congrArg Prod.snd h.2) h1
theorem one_is {p was s : List UInt8} {first : Bool} {q q' : Nat} (_ : q ≤ p.length) (h : oneR p first was q = (s, q', 0)) :
    Op.bytesLess was s = true ∧ (1 ≤ s.length ∧ s.length ≤ 25) ∧ q ≤ q' ∧ q' ≤ p.length ∧ (if first = true then textB s else itemB was s) = seg p q q' := by
  obtain ⟨m, q1, e1, h1⟩ : ∃ m q1 e1, sameR p first was q = (m, q1, e1) := ⟨_, _, _, rfl⟩
  obtain ⟨r, q2, e2, h2⟩ : ∃ r q2 e2, textR p q1 e1 25 = (r, q2, e2) := ⟨_, _, _, rfl⟩
  unfold oneR at h
  rw [h1] at h
  dsimp only at h
  rw [h2] at h
  dsimp only at h
  by_cases he : e2 = 0
  · rw [if_neg (by simpa using he)] at h
    split at h
    · simp at h
    · rename_i hc
      simp only [Prod.mk.injEq] at h
      obtain ⟨hs, hq2, -⟩ := h
      have he1 : e1 = 0 := by
        by_cases h0 : e1 = 0
        · exact h0
        · exfalso
          have hi : intR p q1 e1 25 = (0, q1, e1) := by
            have hn : numR p q1 e1 = (0, q1, e1) := by unfold numR; rw [if_neg h0]
            unfold intR
            rw [hn]
            dsimp only
            rw [if_neg h0]
          unfold textR at h2
          rw [hi] at h2
          dsimp only at h2
          rw [if_neg h0] at h2
          simp only [Prod.mk.injEq] at h2
          exact h0 (h2.2.2.trans he)
      subst he1 he
      obtain ⟨t1, t2, t3, t4⟩ := text_is h2
      have hc1 : r ≠ [] := fun e => hc (.inl e)
      have hc2 : ¬ 25 < (was.take m ++ r).length := fun e => hc (.inr (.inl e))
      have hc3 : Op.bytesLess was (was.take m ++ r) = true := by
        cases hb : Op.bytesLess was (was.take m ++ r) with
        | true => rfl
        | false => exact absurd (.inr (.inr (.inl hb))) hc
      rw [hs] at hc2 hc3
      have hr : 0 < r.length := by cases r with | nil => exact absurd rfl hc1 | cons _ _ => simp
      have hsl : r.length ≤ s.length := by rw [← hs, List.length_append]; omega
      cases first with
      | true =>
        unfold sameR at h1
        rw [if_pos rfl] at h1
        simp only [Prod.mk.injEq] at h1
        obtain ⟨hm, hq1, -⟩ := h1
        rw [← hm, List.take_zero, List.nil_append] at hs
        subst hs
        refine ⟨hc3, ⟨by omega, t1⟩, by omega, by omega, ?_⟩
        rw [if_pos rfl, t4, hq1, hq2]
      | false =>
        unfold sameR at h1
        rw [if_neg (by simp)] at h1
        obtain ⟨i1, i2, i3, i4⟩ := int_is h1
        have hal : alike was s = m := by
          by_cases h9 : alike was s = m
          · exact h9
          · rw [← hs] at h9
            exact absurd (.inr (.inr (.inr ⟨rfl, h9⟩))) hc
        have hdrop : s.drop m = r := by
          rw [← hs, List.drop_left' (by rw [List.length_take]; omega)]
        refine ⟨hc3, ⟨by omega, by omega⟩, by omega, by omega, ?_⟩
        rw [if_neg (by simp), itemB, hal, hdrop, t4, i4, seg_app i2 t2, hq2]
  · rw [if_pos (by simpa using he)] at h
    simp only [Prod.mk.injEq] at h
    exact absurd h.2.2 he
theorem Above.cons {was s : List UInt8} {t : List (List UInt8)} (h1 : Op.bytesLess was s = true) (h2 : 1 ≤ s.length ∧ s.length ≤ 25) (h : Above s t) : Above was (s :: t) :=
  ⟨List.pairwise_cons.2 ⟨fun z hz => by
    rcases List.mem_cons.1 hz with rfl | hz
    · exact h1
    · exact less_trans was s z h1 ((List.pairwise_cons.1 h.1).1 z hz), h.1⟩, fun z hz => by
    rcases List.mem_cons.1 hz with rfl | hz
    · exact h2
    · exact h.2 z hz⟩
theorem Above.nil (was : List UInt8) : Above was [] := ⟨by simp [Rising], fun s hs => by simp at hs⟩
theorem texts_is {p : List UInt8} : ∀ (k : Nat) (was : List UInt8) (q : Nat) (t : List (List UInt8)) (q' : Nat), q ≤ p.length → textsR p k false was q = (t, q', 0) → t.length = k ∧ tailB was t = seg p q q' ∧ Above was t ∧ q ≤ q' ∧ q' ≤ p.length
  | 0, was, q, t, q', hq, h => by
    simp only [textsR, Prod.mk.injEq] at h
    obtain ⟨rfl, rfl, -⟩ := h
    exact ⟨rfl, by rw [seg_nil]; rfl, Above.nil was, Nat.le_refl _, hq⟩
  | k + 1, was, q, t, q', hq, h => by
    obtain ⟨s, q1, e1, h1⟩ : ∃ s q1 e1, oneR p false was q = (s, q1, e1) := ⟨_, _, _, rfl⟩
    obtain ⟨r, q2, e2, h2⟩ : ∃ r q2 e2, textsR p k false s q1 = (r, q2, e2) := ⟨_, _, _, rfl⟩
    rw [textsR, h1] at h
    dsimp only at h
    rw [h2] at h
    dsimp only at h
    by_cases he1 : e1 = 0
    · rw [if_neg (by simpa using he1)] at h
      by_cases he2 : e2 = 0
      · rw [if_neg (by simpa using he2)] at h
        simp only [Prod.mk.injEq] at h
        obtain ⟨rfl, rfl, -⟩ := h
        subst he1 he2
        obtain ⟨o1, o2, o3, o4, o5⟩ := one_is hq h1
        obtain ⟨r1, r2, r3, r4, r5⟩ := texts_is k s q1 r q2 o4 h2
        rw [if_neg (by simp)] at o5
        refine ⟨by rw [List.length_cons, r1], ?_, Above.cons o1 o2 r3, by omega, r5⟩
        rw [tailB, o5, r2, seg_app o3 r4]
      · rw [if_pos (by simpa using he2)] at h
        simp only [Prod.mk.injEq] at h
        exact absurd h.2.2 he2
    · rw [if_pos (by simpa using he1)] at h
      simp only [Prod.mk.injEq] at h
      exact absurd h.2.2 he1
theorem part_is {p was : List UInt8} {k : Nat} {c : List (List UInt8)} (hk : 1 ≤ k) (h : partR p k was = (c, 0)) : c.length = k ∧ bucketB c = p ∧ Above was c := by
  obtain ⟨k, rfl⟩ : ∃ j, k = j + 1 := ⟨k - 1, by omega⟩
  obtain ⟨t, q', e, ht⟩ : ∃ t q' e, textsR p (k + 1) true was 0 = (t, q', e) := ⟨_, _, _, rfl⟩
  unfold partR at h
  rw [ht] at h
  dsimp only at h
  by_cases he : e = 0
  · rw [if_neg (by simpa using he)] at h
    by_cases hl : q' < p.length
    · rw [if_pos hl] at h; simp at h
    · rw [if_neg hl] at h
      simp only [Prod.mk.injEq, and_true] at h
      subst h he
      obtain ⟨s, q1, e1, h1⟩ : ∃ s q1 e1, oneR p true was 0 = (s, q1, e1) := ⟨_, _, _, rfl⟩
      obtain ⟨r, q2, e2, h2⟩ : ∃ r q2 e2, textsR p k false s q1 = (r, q2, e2) := ⟨_, _, _, rfl⟩
      rw [textsR, h1] at ht
      dsimp only at ht
      rw [h2] at ht
      dsimp only at ht
      by_cases he1 : e1 = 0
      · rw [if_neg (by simpa using he1)] at ht
        by_cases he2 : e2 = 0
        · rw [if_neg (by simpa using he2)] at ht
          simp only [Prod.mk.injEq] at ht
          obtain ⟨rfl, rfl, -⟩ := ht
          subst he1 he2
          obtain ⟨o1, o2, o3, o4, o5⟩ := one_is (Nat.zero_le _) h1
          obtain ⟨r1, r2, r3, r4, r5⟩ := texts_is k s q1 r q2 o4 h2
          rw [if_pos rfl] at o5
          refine ⟨by rw [List.length_cons, r1], ?_, Above.cons o1 o2 r3⟩
          rw [bucketB, o5, r2, seg_app o3 r4, seg, List.drop_zero, Nat.sub_zero, List.take_of_length_le (by omega)]
        · rw [if_pos (by simpa using he2)] at ht
          simp only [Prod.mk.injEq] at ht
          exact absurd ht.2.2 he2
      · rw [if_pos (by simpa using he1)] at ht
        simp only [Prod.mk.injEq] at ht
        exact absurd ht.2.2 he1
  · rw [if_pos (by simpa using he)] at h
    simp only [Prod.mk.injEq] at h
    exact absurd h.2 he
theorem sizes_is {b : List UInt8} : ∀ (m q : Nat) (zs : List Nat) (q' : Nat), q ≤ b.length → sizesR b m q = (zs, q', 0) → zs.length = m ∧ (zs.flatMap enc) = seg b q q' ∧ q ≤ q' ∧ q' ≤ b.length
  | 0, q, zs, q', hq, h => by
    simp only [sizesR, Prod.mk.injEq] at h
    obtain ⟨rfl, rfl, -⟩ := h
    exact ⟨rfl, by rw [seg_nil]; rfl, Nat.le_refl _, hq⟩
  | m + 1, q, zs, q', hq, h => by
    obtain ⟨x, q1, e1, h1⟩ : ∃ x q1 e1, intR b q 0 2000 = (x, q1, e1) := ⟨_, _, _, rfl⟩
    obtain ⟨r, q2, e2, h2⟩ : ∃ r q2 e2, sizesR b m q1 = (r, q2, e2) := ⟨_, _, _, rfl⟩
    rw [sizesR, h1] at h
    dsimp only at h
    rw [h2] at h
    dsimp only at h
    by_cases he1 : e1 = 0
    · rw [if_neg (by simpa using he1)] at h
      by_cases he2 : e2 = 0
      · rw [if_neg (by simpa using he2)] at h
        simp only [Prod.mk.injEq] at h
        obtain ⟨rfl, rfl, -⟩ := h
        subst he1 he2
        obtain ⟨i1, i2, i3, i4⟩ := int_is h1
        obtain ⟨r1, r2, r3, r4⟩ := sizes_is m q1 r q2 i3 h2
        refine ⟨by rw [List.length_cons, r1], ?_, by omega, r4⟩
        rw [List.flatMap_cons, i4, r2, seg_app i2 r3]
      · rw [if_pos (by simpa using he2)] at h
        simp only [Prod.mk.injEq] at h
        exact absurd h.2.2 he2
    · rw [if_pos (by simpa using he1)] at h
      simp only [Prod.mk.injEq] at h
      exact absurd h.2.2 he1
theorem Above.join {was : List UInt8} {c d : List (List UInt8)} (hne : c ≠ []) (h1 : Above was c) (h2 : Above (c.getLastD was) d) : Above was (c ++ d) := by
  have a1 := List.pairwise_cons.1 h1.1
  have a2 := List.pairwise_cons.1 h2.1
  have hlast : ∀ x, x ∈ c → x = c.getLastD was ∨ Op.bytesLess x (c.getLastD was) = true := by
    intro x hx
    obtain ⟨i, hi, rfl⟩ := List.getElem_of_mem hx
    have hl : c.getLastD was = c[c.length - 1]'(by omega) := by
      rw [List.getLastD_eq_getLast?, List.getLast?_eq_getElem?, List.getElem?_eq_getElem (by omega)]
      rfl
    rw [hl]
    by_cases e : i = c.length - 1
    · exact .inl (by simp only [e])
    · exact .inr (List.pairwise_iff_getElem.1 a1.2 i (c.length - 1) hi (by omega) (by omega))
  have hcd : ∀ x, x ∈ c → ∀ y, y ∈ d → Op.bytesLess x y = true := by
    intro x hx y hy
    have hy2 := a2.1 y hy
    rcases hlast x hx with h | h
    · rw [h]; exact hy2
    · exact less_trans _ _ _ h hy2
  refine ⟨List.pairwise_cons.2 ⟨fun z hz => ?_, List.pairwise_append.2 ⟨a1.2, a2.2, hcd⟩⟩, fun z hz => ?_⟩
  · rcases List.mem_append.1 hz with h | h
    · exact a1.1 z h
    · exact less_trans _ _ _ (a1.1 _ (getLastD_mem hne)) (a2.1 z h)
  · rcases List.mem_append.1 hz with h | h
    · exact h1.2 z h
    · exact h2.2 z h
theorem parts_is {b : List UInt8} {size : Nat} (hs : 1 ≤ size) : ∀ (zs : List Nat) (left : Nat) (was : List UInt8) (q : Nat) (l : List (List UInt8)) (q' : Nat), q ≤ b.length → zs.length = bucketsN size left → partsR b size zs left was q = (l, q', 0) →
    l.length = left ∧ Above was l ∧ q ≤ q' ∧ q' ≤ b.length ∧ ∀ f, l.length ≤ f → bodyB (chunks size f l) = seg b q q' ∧ (chunks size f l).map (fun c => (bucketB c).length) = zs
  | [], left, was, q, l, q', hq, hz, h => by
    simp only [partsR, Prod.mk.injEq] at h
    obtain ⟨rfl, rfl, -⟩ := h
    have h0 : left = 0 := by
      rcases Nat.eq_zero_or_pos left with h | h
      · exact h
      · have : 1 ≤ bucketsN size left := by
          unfold bucketsN
          exact (Nat.le_div_iff_mul_le (by omega)).2 (by omega)
        simp at hz; omega
    refine ⟨by rw [h0]; rfl, Above.nil was, Nat.le_refl _, hq, fun f _ => ?_⟩
    cases f <;> simp [chunks, bodyB, seg_nil]
  | z :: zs, left, was, q, l, q', hq, hz, h => by
    obtain ⟨p, q1, e1, h1⟩ : ∃ p q1 e1, takeR b q 0 (z : Int) = (p, q1, e1) := ⟨_, _, _, rfl⟩
    obtain ⟨c, e2, h2⟩ : ∃ c e2, partR p (min size left) was = (c, e2) := ⟨_, _, rfl⟩
    obtain ⟨r, q3, e3, h3⟩ : ∃ r q3 e3, partsR b size zs (left - min size left) (c.getLastD was) q1 = (r, q3, e3) := ⟨_, _, _, rfl⟩
    rw [partsR, h1] at h
    dsimp only at h
    rw [h2] at h
    dsimp only at h
    rw [h3] at h
    dsimp only at h
    by_cases he1 : e1 = 0
    · rw [if_neg (by simpa using he1)] at h
      by_cases he2 : e2 = 0
      · rw [if_neg (by simpa using he2)] at h
        by_cases he3 : e3 = 0
        · rw [if_neg (by simpa using he3)] at h
          simp only [Prod.mk.injEq] at h
          obtain ⟨rfl, rfl, -⟩ := h
          subst he1 he2 he3
          have hl0 : 1 ≤ left := by
            rcases Nat.eq_zero_or_pos left with h | h
            · rw [h] at hz
              unfold bucketsN at hz
              rw [Nat.div_eq_of_lt (by omega)] at hz
              simp at hz
            · exact h
          obtain ⟨t1, t2, t3, t4⟩ := take_is h1
          obtain ⟨p1, p2, p3⟩ := part_is (by omega) h2
          have hne : c ≠ [] := fun e => by rw [e] at p1; simp at p1; omega
          have hq1 : q1 ≤ b.length := by omega
          have hzz : zs.length = bucketsN size (left - min size left) := by
            have hz' : zs.length + 1 = bucketsN size left := by simpa using hz
            unfold bucketsN at hz' ⊢
            rcases Nat.lt_or_ge left size with h | h
            · rw [show left - min size left + size - 1 = size - 1 by omega, Nat.div_eq_of_lt (by omega)]
              rw [show left + size - 1 = size + (left - 1) by omega, Nat.add_div_left _ (by omega), Nat.div_eq_of_lt (by omega)] at hz'
              omega
            · rw [show left - min size left + size - 1 = left - size + size - 1 by omega]
              rw [show left + size - 1 = (left - size + size - 1) + size by omega, Nat.add_div_right _ (by omega)] at hz'
              omega
          obtain ⟨r1, r2, r3, r4, r5⟩ := parts_is hs zs _ _ q1 r q3 hq1 hzz h3
          have htk : (c ++ r).take size = c ∧ (c ++ r).drop size = r := by
            rcases Nat.lt_or_ge left size with h | h
            · have hr0 : r = [] := List.eq_nil_of_length_eq_zero (by omega)
              rw [hr0, List.append_nil]
              exact ⟨List.take_of_length_le (by omega), List.drop_of_length_le (by omega)⟩
            · have hcs : c.length = size := by omega
              exact ⟨List.take_left' hcs, List.drop_left' hcs⟩
          refine ⟨by rw [List.length_append, p1, r1]; omega, Above.join hne p3 r2, by omega, r4, fun f hf => ?_⟩
          rw [List.length_append, p1, r1] at hf
          obtain ⟨f, rfl⟩ : ∃ g, f = g + 1 := ⟨f - 1, by omega⟩
          have hcn : c ++ r ≠ [] := by simp [hne]
          obtain ⟨g1, g2⟩ := r5 f (by omega)
          rw [chunks, if_neg hcn, htk.1, htk.2]
          refine ⟨?_, ?_⟩
          · rw [show bodyB (c :: chunks size f r) = bucketB c ++ bodyB (chunks size f r) by simp [bodyB], g1, p2, t3, seg_app (by omega) r3]
          · rw [List.map_cons, g2, p2, t4]
        · rw [if_pos (by simpa using he3)] at h
          simp only [Prod.mk.injEq] at h
          exact absurd h.2.2 he3
      · rw [if_pos (by simpa using he2)] at h
        simp only [Prod.mk.injEq] at h
        exact absurd h.2.2 he2
    · rw [if_pos (by simpa using he1)] at h
      simp only [Prod.mk.injEq] at h
      exact absurd h.2.2 he1
/-- Each dictionary that is read is the one that is written. -/
theorem read_one {b : List UInt8} {size n : Nat} {l : List (List UInt8)} (hs : 1 ≤ size) (h : readR b size = (l, n, 0)) : mayD l = true ∧ n ≤ b.length ∧ dictB size l = b.take n := by
  obtain ⟨x, q1, e1, h1⟩ : ∃ x q1 e1, intR b 0 0 1048576 = (x, q1, e1) := ⟨_, _, _, rfl⟩
  obtain ⟨zs, q2, e2, h2⟩ : ∃ zs q2 e2, sizesR b (bucketsN size x) q1 = (zs, q2, e2) := ⟨_, _, _, rfl⟩
  obtain ⟨r, q3, e3, h3⟩ : ∃ r q3 e3, partsR b size zs x [] q2 = (r, q3, e3) := ⟨_, _, _, rfl⟩
  unfold readR at h
  rw [h1] at h
  dsimp only at h
  rw [h2] at h
  dsimp only at h
  rw [h3] at h
  dsimp only at h
  by_cases he1 : e1 = 0
  · rw [if_neg (by simpa using he1)] at h
    by_cases he2 : e2 = 0
    · rw [if_neg (by simpa using he2)] at h
      by_cases he3 : e3 = 0
      · rw [if_neg (by simpa using he3)] at h
        simp only [Prod.mk.injEq] at h
        obtain ⟨rfl, rfl, -⟩ := h
        subst he1 he2 he3
        obtain ⟨i1, i2, i3, i4⟩ := int_is h1
        obtain ⟨s1, s2, s3, s4⟩ := sizes_is _ q1 zs q2 i3 h2
        obtain ⟨p1, p2, p3, p4, p5⟩ := parts_is hs zs x [] q2 r q3 s4 s1 h3
        obtain ⟨b1, b2⟩ := p5 r.length (Nat.le_refl _)
        refine ⟨may_of (by omega) p2.2 (List.pairwise_cons.1 p2.1).2, p4, ?_⟩
        have hh : headB (bucketsOf size r) = zs.flatMap enc := by
          unfold bucketsOf headB
          rw [← b2, List.flatMap_map]
        rw [dictB, hh]
        unfold bucketsOf
        rw [b1, p1, i4, s2, seg_app i2 s3, seg_app (by omega) p3, seg, List.drop_zero, Nat.sub_zero]
      · rw [if_pos (by simpa using he3)] at h
        simp only [Prod.mk.injEq] at h
        exact absurd h.2.2 he3
    · rw [if_pos (by simpa using he2)] at h
      simp only [Prod.mk.injEq] at h
      exact absurd h.2.2 he2
  · rw [if_pos (by simpa using he1)] at h
    simp only [Prod.mk.injEq] at h
    exact absurd h.2.2 he1
end Dic
end Go.Proofs.YtcphapdjimeoaaaGreat

namespace Go.Proofs.YtcphapdjimeoaaaGreat
open Go.RowKit

namespace Bit
/-- Bit i of bytes, of each byte the highest first. -/
def at_ (l : List UInt8) (i : Nat) : Bool := (l.getD (i / 8) 0).toNat.testBit (7 - i % 8)
/-- n bits as a number, the highest first. -/
def val (f : Nat → Bool) : Nat → Nat
  | 0 => 0
  | n + 1 => 2 * val f n + (f n).toNat
/-- x in n bits. -/
def num (x n : Nat) : List Bool := (List.range n).map fun i => x.testBit (n - 1 - i)
/-- How many bits 0 stand ahead of the first 1 of n bits. -/
def zeros : Nat → (Nat → Bool) → Nat
  | 0, _ => 0
  | n + 1, f => if f 0 then 0 else 1 + zeros n fun i => f (i + 1)

theorem val_lt (f : Nat → Bool) : ∀ n, val f n < 2 ^ n
  | 0 => by simp [val]
  | n + 1 => by
    have := val_lt f n
    have hb : (f n).toNat ≤ 1 := by cases f n <;> simp
    rw [val, Nat.pow_succ]
    omega
theorem val_congr {f g : Nat → Bool} : ∀ n, (∀ i, i < n → f i = g i) → val f n = val g n
  | 0, _ => rfl
  | n + 1, h => by rw [val, val, val_congr n fun i hi => h i (by omega), h n (by omega)]
theorem val_add (f : Nat → Bool) (k : Nat) : ∀ m, val f (k + m) = val f k * 2 ^ m + val (fun i => f (k + i)) m
  | 0 => by simp [val]
  | m + 1 => by
    rw [← Nat.add_assoc, val, val, val_add f k m, Nat.pow_succ, Nat.mul_add]
    have : 2 * (val f k * 2 ^ m) = val f k * (2 ^ m * 2) := by rw [Nat.mul_comm 2, Nat.mul_assoc]
    omega
theorem testBit_toNat (x i : Nat) : (x.testBit i).toNat = x / 2 ^ i % 2 := by
  rw [Nat.testBit_eq_decide_div_mod_eq]
  have : x / 2 ^ i % 2 < 2 := Nat.mod_lt _ (by omega)
  rcases (by omega : x / 2 ^ i % 2 = 0 ∨ x / 2 ^ i % 2 = 1) with h | h <;> simp [h]
/-- The m bits of c from the place p on downwards. -/
theorem val_down (c p : Nat) : ∀ m, m ≤ p → val (fun i => c.testBit (p - 1 - i)) m = c / 2 ^ (p - m) % 2 ^ m
  | 0, _ => by simp [val, Nat.mod_one]
  | m + 1, h => by
    rw [val, val_down c p m (by omega), testBit_toNat]
    obtain ⟨q, rfl⟩ : ∃ q, p = q + (m + 1) := ⟨p - (m + 1), by omega⟩
    rw [show q + (m + 1) - m = q + 1 by omega, show q + (m + 1) - 1 - m = q by omega, show q + (m + 1) - (m + 1) = q by omega]
    rw [Nat.pow_succ 2 q, ← Nat.div_div_eq_div_mul, Nat.pow_succ 2 m, Nat.mul_comm (2 ^ m) 2, Nat.mod_mul]
    omega
theorem val_num {x n : Nat} (h : x < 2 ^ n) : val (fun i => x.testBit (n - 1 - i)) n = x := by
  rw [val_down x n n (Nat.le_refl n), Nat.sub_self, Nat.pow_zero, Nat.div_one, Nat.mod_eq_of_lt h]
theorem val_zero : ∀ n, val (fun _ => false) n = 0
  | 0 => rfl
  | n + 1 => by rw [val, val_zero n]; rfl
theorem val_shift (f : Nat → Bool) (k m : Nat) (h : ∀ i, k ≤ i → i < k + m → f i = false) : val f (k + m) = val f k * 2 ^ m := by
  rw [val_add, val_congr (g := fun _ => false) m fun i hi => h (k + i) (by omega) (by omega), val_zero, Nat.add_zero]

theorem zeros_le : ∀ n f, zeros n f ≤ n
  | 0, _ => by simp [zeros]
  | n + 1, f => by
    have := zeros_le n fun i => f (i + 1)
    rw [zeros]
    split <;> omega
theorem zeros_false : ∀ n f i, i < zeros n f → f i = false
  | 0, _, i, h => by simp [zeros] at h
  | n + 1, f, i, h => by
    rw [zeros] at h
    split at h
    · omega
    · rename_i h0
      rcases i with _ | i
      · simpa using h0
      · exact zeros_false n (fun i => f (i + 1)) i (by omega)
theorem zeros_true : ∀ n f, zeros n f < n → f (zeros n f) = true
  | 0, _, h => by omega
  | n + 1, f, h => by
    by_cases h0 : f 0 = true
    · have hz : zeros (n + 1) f = 0 := by rw [zeros, if_pos h0]
      rw [hz]; exact h0
    · have hz : zeros (n + 1) f = zeros n (fun i => f (i + 1)) + 1 := by rw [zeros, if_neg h0]; omega
      rw [hz] at h ⊢
      exact zeros_true n (fun i => f (i + 1)) (by omega)
theorem zeros_eq {n z : Nat} {f : Nat → Bool} (h1 : z ≤ n) (h2 : ∀ i, i < z → f i = false) (h3 : z < n → f z = true) : zeros n f = z := by
  have hle := zeros_le n f
  rcases Nat.lt_trichotomy (zeros n f) z with h | h | h
  · have := zeros_true n f (by omega)
    rw [h2 _ h] at this
    cases this
  · exact h
  · have := zeros_false n f z h
    rw [h3 (by omega)] at this
    cases this
theorem zeros_congr {n : Nat} {f g : Nat → Bool} (h : ∀ i, i < n → f i = g i) : zeros n f = zeros n g := by
  have hle := zeros_le n g
  exact zeros_eq hle (fun i hi => by rw [h i (by omega)]; exact zeros_false n g i hi) (fun hz => by rw [h _ hz]; exact zeros_true n g hz)

theorem num_length (x n : Nat) : (num x n).length = n := by simp [num]
theorem num_getD (x n i : Nat) (h : i < n) : (num x n).getD i false = x.testBit (n - 1 - i) := by simp [num, List.getD_eq_getElem?_getD, h]
theorem testBit_high {x n i : Nat} (h : x < 2 ^ n) (hi : n ≤ i) : x.testBit i = false := Nat.testBit_lt_two_pow (Nat.lt_of_lt_of_le h (Nat.pow_le_pow_right (by omega) hi))

/-- These bytes are just these bits, with bits 0 behind the last one. -/
def Packs (l : List UInt8) (B : List Bool) : Prop := l.length = (B.length + 7) / 8 ∧ ∀ i, i < 8 * l.length → at_ l i = B.getD i false

theorem u8_ext {a b : UInt8} (h : ∀ j, j < 8 → a.toNat.testBit j = b.toNat.testBit j) : a = b := by
  apply UInt8.toNat_inj.1
  apply Nat.eq_of_testBit_eq
  intro j
  by_cases hj : j < 8
  · exact h j hj
  · rw [testBit_high (n := 8) a.toNat_lt (by omega), testBit_high (n := 8) b.toNat_lt (by omega)]
theorem getD_ext {a b : List UInt8} (h : a.length = b.length) (hx : ∀ i, i < a.length → a.getD i 0 = b.getD i 0) : a = b := by
  apply List.ext_getElem h
  intro i h1 h2
  have := hx i h1
  simpa [List.getD_eq_getElem?_getD, h1, h2] using this
theorem Packs.uniq {a b : List UInt8} {B : List Bool} (ha : Packs a B) (hb : Packs b B) : a = b := by
  have hl : a.length = b.length := ha.1.trans hb.1.symm
  refine getD_ext hl fun i hi => u8_ext fun j hj => ?_
  have h1 := ha.2 (8 * i + (7 - j)) (by omega)
  have h2 := hb.2 (8 * i + (7 - j)) (by omega)
  unfold at_ at h1 h2
  rw [show (8 * i + (7 - j)) / 8 = i by omega, show 7 - (8 * i + (7 - j)) % 8 = j by omega] at h1 h2
  rw [h1, h2]
theorem Packs.nil : Packs [] [] := ⟨by simp, fun i hi => by simp at hi⟩
theorem at_zeros (l : List UInt8) (k i : Nat) : at_ (l ++ List.replicate k 0) i = (if i < 8 * l.length then at_ l i else false) := by
  unfold at_
  by_cases h : i < 8 * l.length
  · have h1 : i / 8 < l.length := by omega
    rw [if_pos h, List.getD_eq_getElem?_getD, List.getElem?_append_left h1, List.getD_eq_getElem?_getD]
  · have h1 : l.length ≤ i / 8 := by omega
    rw [if_neg h, List.getD_eq_getElem?_getD, List.getElem?_append_right h1, List.getElem?_replicate]
    split <;> simp
theorem getD_app_right (B C : List Bool) (i : Nat) (h : B.length ≤ i) : (B ++ C).getD i false = C.getD (i - B.length) false := by
  simp only [List.getD_eq_getElem?_getD]
  rw [List.getElem?_append_right h]
theorem getD_app_left (B C : List Bool) (i : Nat) (h : i < B.length) : (B ++ C).getD i false = B.getD i false := by
  simp only [List.getD_eq_getElem?_getD]
  rw [List.getElem?_append_left h]
theorem getD_far (B : List Bool) (i : Nat) (h : B.length ≤ i) : B.getD i false = false := by
  simp only [List.getD_eq_getElem?_getD]
  rw [List.getElem?_eq_none h]; rfl
theorem getD_falses (B : List Bool) (n i : Nat) : (B ++ List.replicate n false).getD i false = B.getD i false := by
  by_cases h : i < B.length
  · exact getD_app_left _ _ _ h
  · rw [getD_app_right _ _ _ (by omega), getD_far B i (by omega), List.getD_eq_getElem?_getD, List.getElem?_replicate]
    split <;> rfl
/-- What widening leaves. -/
theorem Packs.widen {l : List UInt8} {B : List Bool} (h : Packs l B) (n : Nat) : Packs (l ++ List.replicate ((B.length + n + 7) / 8 - l.length) 0) (B ++ List.replicate n false) := by
  have h1 := h.1
  refine ⟨by simp; omega, fun i hi => ?_⟩
  rw [at_zeros, getD_falses]
  by_cases hx : i < 8 * l.length
  · rw [if_pos hx]; exact h.2 i hx
  · rw [if_neg hx, getD_far B i (by omega)]

/-- While x is laid behind the bits B, in n bits, up to the place 'p'. -/
def Adds (B : List Bool) (x n : Nat) (l : List UInt8) (p : Nat) : Prop :=
  l.length = (B.length + n + 7) / 8 ∧ B.length ≤ p ∧ p ≤ B.length + n ∧ (p = B.length ∨ p % 8 = 0 ∨ p = B.length + n) ∧
  ∀ i, i < 8 * l.length → at_ l i = (if i < B.length then B.getD i false else (decide (i < p) && x.testBit (B.length + n - 1 - i)))
theorem Adds.start {l : List UInt8} {B : List Bool} (h : Packs l B) (x n : Nat) : Adds B x n (l ++ List.replicate ((B.length + n + 7) / 8 - l.length) 0) B.length := by
  have h2 := h.widen n
  have h1 := h.1
  refine ⟨by simp; omega, Nat.le_refl _, by omega, .inl rfl, fun i hi => ?_⟩
  rw [h2.2 i hi, getD_falses]
  by_cases hx : i < B.length
  · rw [if_pos hx]
  · rw [if_neg hx, getD_far B i (by omega), decide_eq_false hx]; rfl
theorem Adds.done {l : List UInt8} {B : List Bool} {x n : Nat} (h : Adds B x n l (B.length + n)) : Packs l (B ++ num x n) := by
  refine ⟨by rw [h.1, List.length_append, num_length], fun i hi => ?_⟩
  rw [h.2.2.2.2 i hi]
  by_cases h1 : i < B.length
  · rw [if_pos h1, getD_app_left _ _ _ h1]
  · rw [if_neg h1, getD_app_right _ _ _ (by omega)]
    by_cases h2 : i < B.length + n
    · rw [decide_eq_true h2, Bool.true_and, num_getD _ _ _ (by omega)]
      congr 1
      omega
    · rw [decide_eq_false h2, getD_far _ _ (by rw [num_length]; omega)]; rfl
theorem at_set (l : List UInt8) (j i : Nat) (c : UInt8) (hj : j < l.length) : at_ (l.set j c) i = (if i / 8 = j then c.toNat.testBit (7 - i % 8) else at_ l i) := by
  unfold at_
  simp only [List.getD_eq_getElem?_getD, List.getElem?_set]
  by_cases h : i / 8 = j
  · rw [if_pos h, if_pos h.symm, if_pos hj]; rfl
  · rw [if_neg h, if_neg (fun e => h e.symm)]
/-- The byte that a piece of x makes of an old one. -/
def mix (c : UInt8) (x s t : Nat) : UInt8 := c ||| UInt8.ofNat ((x >>> s) % 256 * 2 ^ t)
theorem mix_bit (c : UInt8) (x s t j : Nat) (hj : j < 8) : (mix c x s t).toNat.testBit j = (c.toNat.testBit j || (decide (t ≤ j) && x.testBit (s + (j - t)))) := by
  unfold mix
  rw [UInt8.toNat_or, Nat.testBit_or, UInt8.toNat_ofNat', Nat.testBit_mod_two_pow, decide_eq_true hj, Bool.true_and, Nat.testBit_mul_two_pow]
  by_cases h : t ≤ j
  · rw [decide_eq_true h, Bool.true_and, Bool.true_and, show (256 : Nat) = 2 ^ 8 from rfl, Nat.testBit_mod_two_pow, decide_eq_true (show j - t < 8 by omega), Bool.true_and, Nat.testBit_shiftRight]
  · rw [decide_eq_false h]
    simp
theorem Adds.step {l : List UInt8} {B : List Bool} {x n p k : Nat} (h : Adds B x n l p) (hx : x < 2 ^ n) (hk : k = min (B.length + n - p) (8 - p % 8)) (hp : p < B.length + n) :
    Adds B x n (l.set (p / 8) (mix (l.getD (p / 8) 0) x (B.length + n - p - k) (8 - p % 8 - k))) (p + k) := by
  obtain ⟨h1, h2, h3, h4, h5⟩ := h
  have hj : p / 8 < l.length := by omega
  refine ⟨by rw [List.length_set]; exact h1, by omega, by omega, by omega, fun i hi => ?_⟩
  rw [List.length_set] at hi
  have h5i := h5 i hi
  rw [at_set _ _ _ _ hj]
  by_cases hb : i / 8 = p / 8
  · rw [if_pos hb, mix_bit _ _ _ _ _ (by omega)]
    have hat : (l.getD (p / 8) 0).toNat.testBit (7 - i % 8) = at_ l i := by unfold at_; rw [hb]
    rw [hat, h5i]
    by_cases hi1 : i < B.length
    · rw [if_pos hi1, if_pos hi1]
      by_cases ht : 8 - p % 8 - k ≤ 7 - i % 8
      · rw [testBit_high hx (by omega)]; simp
      · simp [ht]
    · rw [if_neg hi1, if_neg hi1]
      by_cases hip : i < p
      · rw [decide_eq_true hip, decide_eq_true (show i < p + k by omega)]
        omega
      · rw [decide_eq_false hip, Bool.false_and, Bool.false_or]
        by_cases hik : i < p + k
        · rw [decide_eq_true hik, decide_eq_true (show 8 - p % 8 - k ≤ 7 - i % 8 by omega)]
          congr 2
          omega
        · rw [decide_eq_false hik, decide_eq_false (show ¬ 8 - p % 8 - k ≤ 7 - i % 8 by omega)]
          rfl
  · rw [if_neg hb, h5i]
    by_cases hi1 : i < B.length
    · rw [if_pos hi1, if_pos hi1]
    · rw [if_neg hi1, if_neg hi1]
      by_cases hip : i < p
      · rw [decide_eq_true hip, decide_eq_true (show i < p + k by omega)]
      · rw [decide_eq_false hip, decide_eq_false (show ¬ i < p + k by omega)]
/-- A piece of a byte that is read. -/
theorem val_byte (l : List UInt8) (p m : Nat) (h : p % 8 + m ≤ 8) : val (fun i => at_ l (p + i)) m = (l.getD (p / 8) 0).toNat / 2 ^ (8 - p % 8 - m) % 2 ^ m := by
  rw [← val_down _ (8 - p % 8) m (by omega)]
  refine val_congr m fun i hi => ?_
  unfold at_
  rw [show (p + i) / 8 = p / 8 by omega, show 7 - (p + i) % 8 = 8 - p % 8 - 1 - i by omega]
end Bit
end Go.Proofs.YtcphapdjimeoaaaGreat

namespace Go.Proofs.YtcphapdjimeoaaaGreat
open Go.RowKit

def sameB (a b : List UInt8) : Bool := decide (a = b)
theorem sameB_true {a b : List UInt8} (h : a = b) : sameB a b = true := decide_eq_true h
theorem sameB_false {a b : List UInt8} (h : a ≠ b) : sameB a b = false := decide_eq_false h
end Go.Proofs.YtcphapdjimeoaaaGreat

namespace Go.Proofs.YtcphapdjimeoaaaGreat
open Go.RowKit

theorem conv_bytes {w : World} {B : Nat} {A : Option Addr} {n : Nat} {l : List UInt8} (c : Nat) (h : Bytes w B A n l) (hA : A = none → n = 0) :
    (convert 22 9 (.slice A n c)).run Tryz.prog w = .ok (.string ⟨l.toArray⟩) w := by
  obtain ⟨hl, hb⟩ := h
  rcases A with _ | ad
  · obtain rfl := hA rfl
    obtain rfl := List.eq_nil_of_length_eq_zero hl
    exact run_convert_bytes_nil w 22 5 Tryz.underlying22 Tryz.underlying5 0 c 9 Tryz.underlying9
  · subst hl
    refine run_convert_bytes_back w 22 9 5 ad c l Tryz.underlying22 Tryz.underlying5 Tryz.underlying9 fun j hj => ?_
    rcases hb with h0 | ⟨b, off, hA, _, hc⟩
    · omega
    · obtain rfl : ad = ⟨b, off, none⟩ := by injection hA
      have hadd : (⟨b, off, none⟩ : Addr).add j = ⟨b, off + j, none⟩ := by unfold Addr.add; split <;> simp_all
      rw [hadd, hc j hj, List.getD_eq_getElem?_getD, List.getElem?_eq_getElem hj]
      rfl

theorem same_beq (a b : List UInt8) : sameB a b = (a == b) := by
  by_cases h : a = b
  · rw [sameB_true h]; simp [h]
  · rw [sameB_false h]; simp [h]
end Go.Proofs.YtcphapdjimeoaaaGreat

namespace Go.Proofs.YtcphapdjimeoaaaGreat
open Go.RowKit

theorem OwnI.form2 {w : World} {base : Nat} {v : Value} {L : List Int} (h : OwnI w base v L) : ∃ A c, v = .slice A L.length c ∧ L.length ≤ c ∧ c ≤ maxLen ∧ IntsAt w w.heap.size A L.length L := by
  have hl := h.lt
  rcases h.2 with ⟨rfl, h0⟩ | ⟨g, cap, cur, rfl, hb, hg, hn, hc, hs, ht⟩
  · exact ⟨.none, 0, by rw [h0], by omega, by unfold maxLen; omega, rfl, .inl h0⟩
  · refine ⟨_, cap, rfl, hn, hc, rfl, .inr ⟨g, 0, rfl, (hl g rfl).2, fun i hi => ?_⟩⟩
    have hk := World.ownsRow.cellAt h i (by omega)
    rw [Nat.zero_add, hk]
    simp [hi]
/-- append of one number to a list of the call's own, the world told by what there was. -/
theorem wpList_lit {ops : Array Oper} {rest : List Oper} {o : Oper} {a : Act} {Q : Exit → Act → World → Prop} (hgd : o.guard = none) (s x : Operand) (ho : o.op = .call { callee := .builtin .append, args := #[s, x], argTypes := #[43, 43] }) {w0 w : World} {v : Value} {L : List Int}
    (hE : Ext w0 w) (hO : OwnI w w0.heap.size v L) (hs : a.eval s = v) (p : Int) {c : Nat} (hx : a.eval x = .slice (some ⟨w.heap.size, 0, none⟩) 1 c) (hlen : L.length ≤ 1000000)
    (h : ∀ v' w', OwnI w' w0.heap.size v' (L ++ [p]) → Ext w0 w' → wpList Tryz.prog ops Q rest (a.put o.dst v') w') : wpList Tryz.prog ops Q (o :: rest) a (w.alloc (.cells #[.int .i64 p] 3)) :=
  wpList_appIB hgd s x ho hs p (hO.ext (extNew w _)) hx hlen hE.le fun v' w' h1 h2 => h v' w' h1 (Below.grown (hE.alloc _) h2 (by rw [World.size_alloc]; have := hE.le; omega) (fun k hk => (hO.lt k hk).1))
/-- A list of numbers is told. -/
def MadeL (w : World) (l : List Int) (e : Ending) (w' : World) : Prop := ∃ A c, e = .returned (.slice A l.length c) ∧ l.length ≤ c ∧ c ≤ maxLen ∧ IntsAt w' w'.heap.size A l.length l ∧ Ext w w'
end Go.Proofs.YtcphapdjimeoaaaGreat

namespace Go.Proofs.YtcphapdjimeoaaaGreat
namespace Dic
open Wrd

def beginsB (s w : List UInt8) : Bool := decide (w.length ≤ s.length ∧ s.take w.length = w)
/-- The first place of a text, from the place off on. -/
def findF (s : List UInt8) : List (List UInt8) → Nat → Nat × Bool
  | [], _ => (0, false)
  | a :: t, off => if a = s then (off, true) else findF s t (off + 1)
def findE (l : List (List UInt8)) (s : List UInt8) : Nat × Bool := findF s l 0
/-- The places of those that begin with s, from the place off on. -/
def rangeF (s : List UInt8) : List (List UInt8) → Nat → Nat × Nat
  | [], _ => (0, 0)
  | a :: t, off => if beginsB a s = true then (off, if (rangeF s t (off + 1)).2 = 0 then off + 1 else (rangeF s t (off + 1)).2) else rangeF s t (off + 1)
def rangeE (l : List (List UInt8)) (s : List UInt8) : Nat × Nat := rangeF s l 0

theorem begins_iff {s w : List UInt8} : beginsB s w = true ↔ w <+: s := by
  unfold beginsB
  rw [decide_eq_true_eq]
  constructor
  · rintro ⟨_, h⟩
    rw [← h]
    exact List.take_prefix _ _
  · intro h
    exact ⟨h.length_le, (List.prefix_iff_eq_take.1 h).symm⟩
/-- Between two texts that begin with w, all begin with w. -/
theorem between : ∀ (w a b c : List UInt8), w <+: a → w <+: c → Op.bytesLess a b = true → Op.bytesLess b c = true → w <+: b
  | [], _, _, _, _, _, _, _ => List.nil_prefix
  | x :: w, a, b, c, h1, h2, h3, h4 => by
    obtain ⟨a', rfl⟩ := h1
    obtain ⟨c', rfl⟩ := h2
    cases b with
    | nil => simp [Op.bytesLess] at h3
    | cons y b =>
      simp only [List.cons_append, Op.bytesLess, Bool.or_eq_true, Bool.and_eq_true, decide_eq_true_eq, beq_iff_eq] at h3 h4
      have hyx : y = x := by
        rcases h3 with h3 | ⟨h3, _⟩
        · rcases h4 with h4 | ⟨h4, _⟩
          · exact absurd (UInt8.lt_trans h3 h4) (UInt8.lt_irrefl x)
          · exact h4
        · exact h3.symm
      subst hyx
      have h3' : Op.bytesLess (w ++ a') b = true := by
        rcases h3 with h3 | ⟨_, h3⟩
        · exact absurd h3 (UInt8.lt_irrefl y)
        · exact h3
      have h4' : Op.bytesLess b (w ++ c') = true := by
        rcases h4 with h4 | ⟨_, h4⟩
        · exact absurd h4 (UInt8.lt_irrefl y)
        · exact h4
      exact List.cons_prefix_cons.2 ⟨rfl, between w _ b _ (List.prefix_append _ _) (List.prefix_append _ _) h3' h4'⟩
theorem rangeF_facts (s : List UInt8) : ∀ (l : List (List UInt8)) (off : Nat),
    ((rangeF s l off).2 = 0 ∧ (rangeF s l off).1 = 0 ∧ ∀ i, i < l.length → beginsB (l.getD i []) s = false) ∨
    (∃ f t, rangeF s l off = (off + f, off + t + 1) ∧ f ≤ t ∧ t < l.length ∧ beginsB (l.getD f []) s = true ∧ beginsB (l.getD t []) s = true ∧ (∀ i, i < f → beginsB (l.getD i []) s = false) ∧ ∀ i, t < i → i < l.length → beginsB (l.getD i []) s = false)
  | [], off => .inl ⟨rfl, rfl, fun i hi => by simp at hi⟩
  | a :: l, off => by
    rw [rangeF]
    cases hb : beginsB a s with
    | true =>
      rw [if_pos rfl]
      rcases rangeF_facts s l (off + 1) with ⟨h1, _, h3⟩ | ⟨f, t, h1, h2, h3, h4, h5, h6, h7⟩
      · rw [if_pos h1]
        refine .inr ⟨0, 0, by simp, Nat.le_refl _, by simp, hb, hb, fun i hi => by omega, fun i h0 hi => ?_⟩
        obtain ⟨j, rfl⟩ : ∃ j, i = j + 1 := ⟨i - 1, by omega⟩
        rw [List.getD_cons_succ]
        exact h3 j (by simpa using hi)
      · rw [h1, if_neg (by simp)]
        refine .inr ⟨0, t + 1, by simp; omega, by omega, by simpa using h3, hb, by rw [List.getD_cons_succ]; exact h5, fun i hi => by omega, fun i h0 hi => ?_⟩
        obtain ⟨j, rfl⟩ : ∃ j, i = j + 1 := ⟨i - 1, by omega⟩
        rw [List.getD_cons_succ]
        exact h7 j (by omega) (by simpa using hi)
    | false =>
      rw [if_neg (by simp)]
      rcases rangeF_facts s l (off + 1) with ⟨h1, h2, h3⟩ | ⟨f, t, h1, h2, h3, h4, h5, h6, h7⟩
      · refine .inl ⟨h1, h2, fun i hi => ?_⟩
        cases i with
        | zero => exact hb
        | succ j => rw [List.getD_cons_succ]; exact h3 j (by simpa using hi)
      · refine .inr ⟨f + 1, t + 1, by rw [h1]; congr 1 <;> omega, by omega, by simpa using h3, by rw [List.getD_cons_succ]; exact h4, by rw [List.getD_cons_succ]; exact h5, fun i hi => ?_, fun i h0 hi => ?_⟩
        · cases i with
          | zero => exact hb
          | succ j => rw [List.getD_cons_succ]; exact h6 j (by omega)
        · obtain ⟨j, rfl⟩ : ∃ j, i = j + 1 := ⟨i - 1, by omega⟩
          rw [List.getD_cons_succ]
          exact h7 j (by omega) (by simpa using hi)
theorem rise_lt {l : List (List UInt8)} (h : Rising l) {i j : Nat} (hij : i < j) (hj : j < l.length) : Op.bytesLess (l.getD i []) (l.getD j []) = true := by
  have := List.pairwise_iff_getElem.1 h i j (by omega) hj hij
  simpa [List.getD_eq_getElem?_getD, hj, show i < l.length by omega] using this
/-- A text begins with s just if its place is in the range of s. -/
theorem range_iff {l : List (List UInt8)} (h : Rising l) (s : List UInt8) {i : Nat} (hi : i < l.length) : beginsB (l.getD i []) s = true ↔ ((rangeE l s).1 ≤ i ∧ i < (rangeE l s).2) := by
  unfold rangeE
  rcases rangeF_facts s l 0 with ⟨h1, h2, h3⟩ | ⟨f, t, h1, h2, h3, h4, h5, h6, h7⟩
  · rw [h1, h3 i hi]
    simp
  · rw [h1]
    simp only [Nat.zero_add]
    constructor
    · intro hb
      refine ⟨?_, ?_⟩
      · rcases Nat.lt_or_ge i f with hlt | hge
        · rw [h6 i hlt] at hb; cases hb
        · exact hge
      · rcases Nat.lt_or_ge t i with hlt | hge
        · rw [h7 i hlt hi] at hb; cases hb
        · omega
    · rintro ⟨ha, hb⟩
      rcases Nat.lt_or_ge f i with hf | hf
      · rcases Nat.lt_or_ge i t with ht | ht
        · exact begins_iff.2 (between s _ _ _ (begins_iff.1 h4) (begins_iff.1 h5) (rise_lt h hf hi) (rise_lt h ht h3))
        · rw [show i = t by omega]; exact h5
      · rw [show i = f by omega]; exact h4
theorem findF_facts (s : List UInt8) : ∀ (l : List (List UInt8)) (off : Nat), (findF s l off = (0, false) ∧ ¬ s ∈ l) ∨ ∃ i, findF s l off = (off + i, true) ∧ i < l.length ∧ l.getD i [] = s ∧ ∀ j, j < i → l.getD j [] ≠ s
  | [], off => .inl ⟨rfl, by simp⟩
  | a :: l, off => by
    rw [findF]
    by_cases h : a = s
    · rw [if_pos h]
      exact .inr ⟨0, by simp, by simp, h, fun j hj => by omega⟩
    · rw [if_neg h]
      rcases findF_facts s l (off + 1) with ⟨h1, h2⟩ | ⟨i, h1, h2, h3, h4⟩
      · exact .inl ⟨h1, by simp [h2]; exact fun e => h e.symm⟩
      · refine .inr ⟨i + 1, by rw [h1]; congr 1; omega, by simpa using h2, by rw [List.getD_cons_succ]; exact h3, fun j hj => ?_⟩
        cases j with
        | zero => exact h
        | succ j => rw [List.getD_cons_succ]; exact h4 j (by omega)
end Dic
end Go.Proofs.YtcphapdjimeoaaaGreat

namespace Go.Proofs.YtcphapdjimeoaaaGreat
namespace Dic
open Num Wrd

theorem chunks_more {size : Nat} (hs : 1 ≤ size) : ∀ (f : Nat) (l : List (List UInt8)), l.length ≤ f → chunks size f l = chunks size l.length l
  | 0, l, h => by obtain rfl := List.eq_nil_of_length_eq_zero (by omega : l.length = 0); rfl
  | f + 1, [], _ => by simp [chunks]
  | f + 1, a :: t, h => by
    rw [chunks, if_neg (by simp), List.length_cons, chunks, if_neg (by simp)]
    have h1 : ((a :: t).drop size).length ≤ t.length := by rw [List.length_drop, List.length_cons]; omega
    rw [chunks_more hs f _ (by simp at h; omega), chunks_more hs t.length _ h1]
/-- The buckets from the place i on. -/
def bucketsAt (size : Nat) (l : List (List UInt8)) (i : Nat) : List (List (List UInt8)) := chunks size (l.length - i) (l.drop i)
theorem buckets_start (size : Nat) (l : List (List UInt8)) : bucketsOf size l = bucketsAt size l 0 := by simp [bucketsOf, bucketsAt]
theorem buckets_end {size : Nat} {l : List (List UInt8)} {i : Nat} (h : l.length ≤ i) : bucketsAt size l i = [] := by unfold bucketsAt; rw [show l.length - i = 0 by omega]; rfl
theorem buckets_step {size : Nat} (hs : 1 ≤ size) {l : List (List UInt8)} {i : Nat} (h : i < l.length) : bucketsAt size l i = (l.drop i).take size :: bucketsAt size l (i + size) := by
  unfold bucketsAt
  obtain ⟨f, hf⟩ : ∃ f, l.length - i = f + 1 := ⟨l.length - i - 1, by omega⟩
  rw [hf, chunks, if_neg (by intro e; have := congrArg List.length e; simp at this; omega), List.drop_drop]
  congr 1
  rw [chunks_more hs f _ (by rw [List.length_drop]; omega), List.length_drop]
theorem drop_is {l : List (List UInt8)} {i : Nat} (h : i < l.length) : l.drop i = l.getD i [] :: l.drop (i + 1) := by
  rw [List.drop_eq_getElem_cons h, List.getD_eq_getElem?_getD, List.getElem?_eq_getElem h]
  rfl
/-- What is left of a bucket, from the place k on, up to e. -/
def left (l : List (List UInt8)) (k e : Nat) : List (List UInt8) := (l.drop k).take (e - k)
theorem bucket_start {size : Nat} (hs : 1 ≤ size) {l : List (List UInt8)} {i : Nat} (h : i < l.length) : bucketB ((l.drop i).take size) = textB (l.getD i []) ++ tailB (l.getD i []) (left l (i + 1) (i + size)) := by
  obtain ⟨m, rfl⟩ : ∃ m, size = m + 1 := ⟨size - 1, by omega⟩
  rw [drop_is h, List.take_succ_cons, bucketB]
  unfold left
  rw [show i + (m + 1) - (i + 1) = m by omega]
theorem tail_step {l : List (List UInt8)} {k e : Nat} (h1 : k < e) (h2 : k < l.length) (was : List UInt8) : tailB was (left l k e) = itemB was (l.getD k []) ++ tailB (l.getD k []) (left l (k + 1) e) := by
  unfold left
  obtain ⟨m, hm⟩ : ∃ m, e - k = m + 1 := ⟨e - k - 1, by omega⟩
  rw [drop_is h2, hm, List.take_succ_cons, tailB, show e - (k + 1) = m by omega]
theorem tail_end {l : List (List UInt8)} {k e : Nat} (h : e ≤ k ∨ l.length ≤ k) (was : List UInt8) : tailB was (left l k e) = [] := by
  unfold left
  rcases h with h | h
  · rw [show e - k = 0 by omega]; rfl
  · rw [List.drop_eq_nil_of_le h]; simp [tailB]
theorem head_len : ∀ bs : List (List (List UInt8)), (headB bs).length ≤ 10 * bs.length
  | [] => by simp [headB]
  | c :: bs => by
    have h1 := head_len bs
    have h2 := enc_len (bucketB c).length
    unfold headB at h1 ⊢
    rw [List.flatMap_cons, List.length_append, List.length_cons]
    omega
theorem body_len : ∀ bs : List (List (List UInt8)), (∀ c, c ∈ bs → (bucketB c).length ≤ 2000) → (bodyB bs).length ≤ 2000 * bs.length
  | [], _ => by simp [bodyB]
  | c :: bs, h => by
    have h1 := body_len bs (fun c hc => h c (by simp [hc]))
    have h2 := h c (by simp)
    unfold bodyB at h1 ⊢
    rw [List.flatMap_cons, List.length_append, List.length_cons]
    omega
theorem chunks_few {size : Nat} (hs : 1 ≤ size) : ∀ (f : Nat) (l : List (List UInt8)), (chunks size f l).length ≤ f
  | 0, _ => by simp [chunks]
  | f + 1, l => by
    have := chunks_few hs f (l.drop size)
    rw [chunks]
    split <;> simp <;> omega
theorem chunks_body {size : Nat} : ∀ (f : Nat) (l : List (List UInt8)), (∀ s, s ∈ l → s.length ≤ 25) → (bodyB (chunks size f l)).length ≤ 27 * l.length
  | 0, _, _ => by simp [chunks, bodyB]
  | f + 1, l, h => by
    have h1 := chunks_body (size := size) f (l.drop size) (fun s hs => h s (List.mem_of_mem_drop hs))
    have h2 := bucket_len (c := l.take size) (fun s hs => h s (List.mem_of_mem_take hs))
    rw [chunks]
    split
    · simp [bodyB]
    · unfold bodyB at h1 ⊢
      rw [List.flatMap_cons, List.length_append]
      rw [List.length_drop] at h1
      rw [List.length_take] at h2
      omega
/-- No part of what is written is great. -/
theorem dict_len {size : Nat} (h1 : 1 ≤ size) (h2 : size ≤ 64) {l : List (List UInt8)} (hl : ∀ s, s ∈ l → s.length ≤ 25) : (enc l.length ++ headB (bucketsOf size l)).length ≤ 10 + 10 * l.length ∧ (bodyB (bucketsOf size l)).length ≤ 2000 * l.length ∧ ∀ c, c ∈ bucketsOf size l → (bucketB c).length ≤ 2000 := by
  have hf := chunks_fit h2 l.length l hl
  have hn := chunks_few h1 l.length l
  have ha := head_len (bucketsOf size l)
  have hb := body_len (bucketsOf size l) hf
  have hc := enc_len l.length
  unfold bucketsOf at ha hb hf ⊢
  refine ⟨?_, ?_, hf⟩
  · rw [List.length_append]; omega
  · exact Nat.le_trans hb (Nat.mul_le_mul_left _ hn)
theorem dict_small {size : Nat} (h1 : 1 ≤ size) (h2 : size ≤ 64) {l : List (List UInt8)} (hl : ∀ s, s ∈ l → s.length ≤ 25) : (dictB size l).length ≤ 10 + 37 * l.length := by
  have ha := (dict_len h1 h2 hl).1
  have hb := chunks_body (size := size) l.length l hl
  unfold dictB
  rw [List.length_append]
  unfold bucketsOf at ha ⊢
  omega
theorem bucket_in {size : Nat} (h1 : 1 ≤ size) (h2 : size ≤ 64) {l : List (List UInt8)} (hl : ∀ s, s ∈ l → s.length ≤ 25) (i : Nat) : (bucketB ((l.drop i).take size)).length ≤ 2000 := by
  have := bucket_len (c := (l.drop i).take size) (fun s hs => hl s (List.mem_of_mem_drop (List.mem_of_mem_take hs)))
  have h3 : ((l.drop i).take size).length ≤ 64 := by rw [List.length_take]; omega
  omega
end Dic
end Go.Proofs.YtcphapdjimeoaaaGreat

namespace Go.Proofs.YtcphapdjimeoaaaGreat
open Go.RowKit

set_option maxHeartbeats 1000000 in
theorem same_any (A1 A2 : Option Addr) (n m c d : Nat) (a b : List UInt8) (w : World) (ha : Bytes w w.heap.size A1 n a) (hb : Bytes w w.heap.size A2 m b) :
    Calls Tryz.prog 11 #[.slice A1 n c, .slice A2 m d] w fun e w' => e = .returned (.bool (sameB a b)) ∧ Ext w w' := by
  have h1 := conv_bytes c ha (fun h => by subst h; rcases ha.2 with h | ⟨_, _, h, _⟩; exact h; cases h)
  have h2 := conv_bytes d hb (fun h => by subst h; rcases hb.2 with h | ⟨_, _, h, _⟩; exact h; cases h)
  clear ha hb
  go_enter Tryz.func11, Tryz.ntmps11
  go_wp2
  go_ret
  exact ⟨ret_bool (same_beq a b).symm, Ext.refl _⟩
end Go.Proofs.YtcphapdjimeoaaaGreat

namespace Go.Proofs.YtcphapdjimeoaaaGreat
namespace Rcs
open Num

/-- The bytes from q up to q'. -/
def seg (b : List UInt8) (q q' : Nat) : List UInt8 := (b.drop q).take (q' - q)
theorem seg_app {b : List UInt8} {q r s : Nat} (h1 : q ≤ r) (h2 : r ≤ s) : seg b q r ++ seg b r s = seg b q s := by
  unfold seg
  have : b.drop r = (b.drop q).drop (r - q) := by rw [List.drop_drop, show q + (r - q) = r by omega]
  rw [this, show s - q = (r - q) + (s - r) by omega, List.take_add]
theorem seg_nil (b : List UInt8) (q : Nat) : seg b q q = [] := by simp [seg]
theorem seg_end {b : List UInt8} {q : Nat} : seg b q b.length = b.drop q := by unfold seg; exact List.take_of_length_le (by rw [List.length_drop]; omega)
theorem num_is {b : List UInt8} {q x q' : Nat} (h : numR b q 0 = (x, q', 0)) : x < 2 ^ 64 ∧ q < q' ∧ q' ≤ b.length ∧ enc x = seg b q q' := by
  unfold numR at h
  rw [if_pos rfl] at h
  have hf := scan_facts b q
  rw [h] at hf
  obtain ⟨y, hv, ht, _, h1, h2⟩ := scanF_one b q 10 0 0 x q' h
  simp only [Nat.pow_zero, Nat.mul_one, Nat.zero_add, Nat.add_zero] at hv ht h1
  subst hv
  exact ⟨hf.1, by omega, h2, ht.symm⟩
theorem num_err {b : List UInt8} {q : Nat} {e : Int} (h : e ≠ 0) : (numR b q e).2.2 = e := by unfold numR; rw [if_neg h]
theorem int_err {b : List UInt8} {q : Nat} {e most : Int} (h : e ≠ 0) : (intR b q e most).2.2 = e := by
  unfold intR
  rw [num_err h, if_neg h]
theorem take_err {b : List UInt8} {q : Nat} {e n : Int} (h : e ≠ 0) : (takeR b q e n).2.2 = e := by unfold takeR; rw [if_neg h]
theorem byte_err {b : List UInt8} {q : Nat} {e : Int} (h : e ≠ 0) : (byteR b q e).2.2 = e := take_err h
theorem text_err {b : List UInt8} {q : Nat} {e most : Int} (h : e ≠ 0) : (textR b q e most).2.2 = e := by
  unfold textR
  rw [int_err h, if_neg h]
  exact int_err h
theorem int_is {b : List UInt8} {q x q' : Nat} {most : Int} (h : intR b q 0 most = (x, q', 0)) : (x : Int) ≤ most ∧ numR b q 0 = (x, q', 0) := by
  unfold intR at h
  obtain ⟨y, p, e, hn⟩ : ∃ y p e, numR b q 0 = (y, p, e) := ⟨_, _, _, rfl⟩
  rw [hn] at h
  dsimp only at h
  by_cases h1 : e = 0
  · rw [if_pos h1] at h
    by_cases h2 : most < (y : Int)
    · rw [if_pos h2] at h; simp at h
    · rw [if_neg h2] at h
      subst h1
      rw [hn]
      simp only [Prod.mk.injEq] at h
      obtain ⟨rfl, rfl, _⟩ := h
      exact ⟨by omega, rfl⟩
  · rw [if_neg h1] at h
    simp only [Prod.mk.injEq] at h
    exact absurd h.2.2 h1
theorem take_is {b x : List UInt8} {q n q' : Nat} (h : takeR b q 0 (n : Int) = (x, q', 0)) : q' = q + n ∧ (n = 0 ∨ q' ≤ b.length) ∧ x = seg b q q' ∧ x.length = n := by
  unfold takeR at h
  rw [if_pos rfl, if_neg (by omega)] at h
  by_cases h1 : ((b.length - q : Nat) : Int) < (n : Int)
  · rw [if_pos h1] at h; simp at h
  · rw [if_neg h1, Int.toNat_natCast] at h
    simp only [Prod.mk.injEq] at h
    refine ⟨h.2.1.symm, by omega, ?_, ?_⟩
    · rw [← h.1, ← h.2.1, seg, show q + n - q = n by omega]
    · rw [← h.1, List.length_take, List.length_drop]; omega
theorem byte_is {b : List UInt8} {q x q' : Nat} (h : byteR b q 0 = (x, q', 0)) : x < 256 ∧ q' = q + 1 ∧ q' ≤ b.length ∧ [UInt8.ofNat x] = seg b q q' := by
  unfold byteR at h
  obtain ⟨t, p, e, ht⟩ : ∃ t p e, takeR b q 0 1 = (t, p, e) := ⟨_, _, _, rfl⟩
  rw [ht] at h
  simp only [Prod.mk.injEq] at h
  obtain ⟨h1, h2, h3⟩ := h
  subst h2 h3
  obtain ⟨k1, k2, k3, k4⟩ := take_is (n := 1) ht
  match t, k4 with
  | [c], _ =>
    have hx : x = c.toNat := by rw [← h1]; rfl
    refine ⟨by rw [hx]; exact c.toNat_lt, k1, by omega, ?_⟩
    rw [← k3, hx, UInt8.ofNat_toNat]
theorem text_is {b s : List UInt8} {q q' : Nat} {most : Int} (h : textR b q 0 most = (s, q', 0)) : (s.length : Int) ≤ most ∧ q < q' ∧ q' ≤ b.length ∧ txtB s = seg b q q' := by
  unfold textR at h
  obtain ⟨x, q1, e, hx⟩ : ∃ x q1 e, intR b q 0 most = (x, q1, e) := ⟨_, _, _, rfl⟩
  rw [hx] at h
  dsimp only at h
  by_cases h1 : e = 0
  · subst h1
    obtain ⟨i1, i5⟩ := int_is hx
    obtain ⟨-, i2, i3, i4⟩ := num_is i5
    rw [if_pos rfl] at h
    by_cases h2 : b.length - q1 < x
    · rw [if_pos h2] at h; simp at h
    · rw [if_neg h2] at h
      obtain ⟨t1, t2, t3, t4⟩ := take_is h
      refine ⟨by omega, by omega, by omega, ?_⟩
      rw [txtB, t4, i4, t3, seg_app (by omega) (by omega)]
  · rw [if_neg h1] at h
    simp only [Prod.mk.injEq] at h
    exact absurd h.2.2 h1
/-- Of a record that is read. -/
theorem one_is {whole : Bool} {b : List UInt8} {q q' : Nat} {r : Rc} (h : recR whole b q = (r, q', 0)) :
    q < q' ∧ q' ≤ b.length ∧ oneB whole r = seg b q q' ∧ r.time < 2 ^ 64 ∧ r.src.length ≤ 4000 ∧ r.text.length ≤ 4000 := by
  obtain ⟨t1, t2, t3, ht⟩ : ∃ t1 t2 t3, timeR whole b q = (t1, t2, t3) := ⟨_, _, _, rfl⟩
  obtain ⟨l1, l2, l3, hl⟩ : ∃ l1 l2 l3, lvR whole b q = (l1, l2, l3) := ⟨_, _, _, rfl⟩
  obtain ⟨s1, s2, s3, hs⟩ : ∃ s1 s2 s3, srcR whole b q = (s1, s2, s3) := ⟨_, _, _, rfl⟩
  obtain ⟨x1, x2, x3, hx⟩ : ∃ x1 x2 x3, txtR whole b q = (x1, x2, x3) := ⟨_, _, _, rfl⟩
  unfold recR at h
  rw [ht, hl, hs, hx] at h
  simp only [Prod.mk.injEq] at h
  obtain ⟨hr, h2, h3⟩ := h
  subst h2 h3 hr
  unfold txtR at hx
  rw [hs] at hx
  dsimp only at hx
  have hs0 : s3 = 0 := Decidable.byContradiction fun hne => by
    have := text_err (b := b) (q := s2) (most := 4000) hne
    rw [hx] at this
    exact hne this.symm
  subst hs0
  unfold srcR at hs
  rw [hl] at hs
  dsimp only at hs
  have hl0 : l3 = 0 := Decidable.byContradiction fun hne => by
    have := text_err (b := b) (q := l2) (most := 4000) hne
    rw [hs] at this
    exact hne this.symm
  subst hl0
  obtain ⟨a1, a2, a3, a4⟩ := text_is hs
  obtain ⟨c1, c2, c3, c4⟩ := text_is hx
  cases whole with
  | false =>
    unfold lvR at hl
    rw [if_neg (by simp)] at hl
    unfold timeR at ht
    rw [if_neg (by simp)] at ht
    simp only [Prod.mk.injEq] at hl ht
    obtain ⟨rfl, rfl, -⟩ := hl
    obtain ⟨rfl, -, -⟩ := ht
    refine ⟨by omega, c3, ?_, by simp, by dsimp only; omega, by dsimp only; omega⟩
    unfold oneB
    rw [if_neg (by simp)]
    dsimp only
    rw [a4, c4, List.nil_append, seg_app (by omega) (by omega)]
  | true =>
    unfold lvR at hl
    rw [if_pos rfl, ht] at hl
    dsimp only at hl
    have ht0 : t3 = 0 := Decidable.byContradiction fun hne => by
      have := byte_err (b := b) (q := t2) hne
      rw [hl] at this
      exact hne this.symm
    subst ht0
    unfold timeR at ht
    rw [if_pos rfl] at ht
    obtain ⟨n1, n2, n3, n4⟩ := num_is ht
    obtain ⟨b1, b2, b3, b4⟩ := byte_is hl
    refine ⟨by omega, c3, ?_, n1, by dsimp only; omega, by dsimp only; omega⟩
    unfold oneB
    rw [if_pos rfl]
    dsimp only
    rw [a4, c4, n4, b4, seg_app (by omega) (by omega), seg_app (by omega) (by omega), seg_app (by omega) (by omega)]
theorem read_is {whole : Bool} {b : List UInt8} : ∀ (f q : Nat) (l : List Rc), b.length ≤ q + f → q ≤ b.length → readF whole b f q = (l, 0) → bytesB whole l = b.drop q ∧ ∀ r ∈ l, r.time < 2 ^ 64 ∧ r.src.length ≤ 4000 ∧ r.text.length ≤ 4000
  | 0, q, l, hf, hq, h => by
    rw [readF] at h
    simp only [Prod.mk.injEq] at h
    obtain ⟨rfl, -⟩ := h
    exact ⟨by rw [List.drop_eq_nil_of_le (by omega)]; rfl, by simp⟩
  | f + 1, q, l, hf, hq, h => by
    rw [readF] at h
    by_cases h1 : b.length ≤ q
    · rw [if_pos h1] at h
      simp only [Prod.mk.injEq] at h
      obtain ⟨rfl, -⟩ := h
      exact ⟨by rw [List.drop_eq_nil_of_le h1]; rfl, by simp⟩
    rw [if_neg h1] at h
    obtain ⟨r, q', e, hr⟩ : ∃ r q' e, recR whole b q = (r, q', e) := ⟨_, _, _, rfl⟩
    rw [hr] at h
    dsimp only at h
    by_cases he : e = 0
    · subst he
      rw [if_neg (by simp)] at h
      obtain ⟨o1, o2, o3, o4⟩ := one_is hr
      obtain ⟨t, e2, ht⟩ : ∃ t e2, readF whole b f q' = (t, e2) := ⟨_, _, rfl⟩
      rw [ht] at h
      dsimp only at h
      by_cases he2 : e2 = 0
      · subst he2
        rw [if_neg (by simp)] at h
        simp only [Prod.mk.injEq] at h
        obtain ⟨rfl, -⟩ := h
        obtain ⟨i1, i2⟩ := read_is f q' t (by omega) o2 ht
        refine ⟨?_, fun x hx => ?_⟩
        · unfold bytesB at i1 ⊢
          rw [List.flatMap_cons, i1, o3, ← seg_end (q := q'), seg_app (by omega) o2, seg_end]
        · rcases List.mem_cons.1 hx with rfl | hx
          · exact o4
          · exact i2 x hx
      · rw [if_pos he2] at h
        simp only [Prod.mk.injEq] at h
        exact absurd h.2 he2
    · rw [if_pos he] at h
      simp only [Prod.mk.injEq] at h
      exact absurd h.2 he
/-- Bytes that are read are those that are written. -/
theorem read_one {whole : Bool} {b : List UInt8} {l : List Rc} (h : readE whole b = (l, 0)) : bytesB whole l = b ∧ ∀ r ∈ l, r.time < 2 ^ 64 ∧ r.src.length ≤ 4000 ∧ r.text.length ≤ 4000 := by
  have := read_is b.length 0 l (by omega) (by omega) h
  simpa using this
end Rcs
end Go.Proofs.YtcphapdjimeoaaaGreat

