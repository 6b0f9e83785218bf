/- Small facts that all proofs of a seat use: later worlds, slices of bytes, what a cut of a slice is. What arguments that came in read as: slices of bytes, and slices of those. Slices of bytes that a call has made itself, and what append makes of them. Are two rows of bytes the same? Bytes as strings. A block that is known whole. Worlds that differ in one block and one row at most; append and stores, told with where what they make lies. Texts as values: a text, lists of texts that came in or are the call's own. Numbers as bytes, seven bits a byte: plain mathematics. Records as bytes, groups, columns, as plain mathematics. Records: slices of them that came in, and of the call's own. What is read is as it is written: plain mathematics of chapter 17. Groups and columns: plain mathematics of chapter 17. What a log weighs, and whether it may be: plain mathematics of chapter 17. -/
import Derived.Test.YtkgkppblkdihkaaRows
import Derived.WalkKit
import Derived.WalkSpells
import Derived.WalkLawsBesides
import Derived.ProofKit
import Derived.OpenShut
import Derived.Deep.Slices
import Derived.Maps.AppendAt
import Derived.Deep.MidRow
import Derived.Laws.Rows
import Derived.Laws.OwnMore
import Derived.Deep.Strs
namespace Go.Proofs.Ytkgkppblkdihkaa
open Go.RowKit

theorem hide {p : Prop} (h : p) : Hid p := h
theorem ret_bool {a b : Bool} (h : a = b) : Ending.returned (.bool a) = .returned (.bool b) := by rw [h]
theorem ret_u32 {a b : Int} (h : a = b) : Ending.returned (.int .u32 a) = .returned (.int .u32 b) := by rw [h]

/-- Everything that was there at w is there at W as it was. -/
def Ext (w W : World) : Prop := Below w.heap.size w W
theorem Ext.refl (w : World) : Ext w w := Below.refl _ _
theorem Ext.trans {a b c : World} (h : Ext a b) (k : Ext b c) : Ext a c := Below.trans h (Below.mono k h.size)
theorem Ext.drew {a b : World} (h : Ext a b) : Ext a b.drew := Below.drew h
theorem Ext.drewN {a b : World} (h : Ext a b) (n : Nat) : Ext a (b.drewN n) := ⟨h.os, h.tape, h.output, h.size, h.block⟩
theorem Ext.alloc {a b : World} (h : Ext a b) (o : Obj) : Ext a (b.alloc o) := Below.alloc h h.size o
theorem Ext.grown' {a b c : World} (h : Ext a b) (hg : b.grownBy c none) : Ext a c := Below.grown h hg h.size (fun k hk => by cases hk)
theorem Ext.setCell {a b : World} (h : Ext a b) {g i : Nat} (hg : a.heap.size ≤ g) (u : Value) : Ext a (b.setCell ⟨g, i, none⟩ u) := Below.setCell (p := ⟨g, i, none⟩) h hg u
theorem Ext.storeNew {a b c : World} (h : Ext a b) {o : Obj} (hG : (b.alloc o).grownBy c (some b.heap.size)) : Ext a c := Below.grown (h.alloc o) hG (h.alloc o).size (fun k hk => by cases hk; exact h.size)
theorem Ext.cell {a b : World} (h : Ext a b) {g i : Nat} (hp : g < a.heap.size) : b.cell? ⟨g, i, none⟩ = a.cell? ⟨g, i, none⟩ := Below.cell (p := ⟨g, i, none⟩) h hp
theorem Ext.le {a b : World} (h : Ext a b) : a.heap.size ≤ b.heap.size := h.size
theorem cellNew (w : World) (cs : Array Value) (t : TypeId) (fr : Nat × Nat) (i : Nat) : (w.alloc (.cells cs t fr)).cell? ⟨w.heap.size, i, none⟩ = cs[i]? := World.cell?_alloc_mark w cs t fr i
theorem belowNew (w : World) (o : Obj) : Below w.heap.size w (w.alloc o) := (Below.refl _ _).alloc (Nat.le_refl _) o
theorem extNew (w : World) (o : Obj) : Ext w (w.alloc o) := belowNew w o

/-- A slice that reads as these bytes, its memory below block B. -/
def Bytes (w : World) (B : Nat) (A : Option Addr) (n : Nat) (l : List UInt8) : Prop :=
  l.length = n ∧ (n = 0 ∨ ∃ b off, A = some ⟨b, off, none⟩ ∧ b < B ∧ ∀ i, i < n → w.cell? ⟨b, off + i, none⟩ = some (.int .u8 ((l.getD i 0).toNat : Int)))
theorem Bytes.below {w w' : World} {B C : Nat} {A : Option Addr} {n : Nat} {l : List UInt8} (h : Bytes w B A n l) (hb : Below C w w') (hC : B ≤ C) : Bytes w' B A n l := by
  refine ⟨h.1, ?_⟩
  rcases h.2 with h0 | ⟨b, off, hA, hB, hc⟩
  · exact .inl h0
  · exact .inr ⟨b, off, hA, hB, fun i hi => by rw [hb.cell (p := ⟨b, off + i, none⟩) (Nat.lt_of_lt_of_le hB hC)]; exact hc i hi⟩
theorem Bytes.mono {w : World} {B C : Nat} {A : Option Addr} {n : Nat} {l : List UInt8} (h : Bytes w B A n l) (hC : B ≤ C) : Bytes w C A n l := by
  refine ⟨h.1, ?_⟩
  rcases h.2 with h0 | ⟨b, off, hA, hB, hc⟩
  · exact .inl h0
  · exact .inr ⟨b, off, hA, Nat.lt_of_lt_of_le hB hC, hc⟩
theorem Ext.bytes {a b : World} (h : Ext a b) {A : Option Addr} {n : Nat} {l : List UInt8} (hb : Bytes a a.heap.size A n l) : Bytes b b.heap.size A n l := (hb.below h (Nat.le_refl _)).mono h.size
theorem Bytes.take {w : World} {B : Nat} {A : Option Addr} {n : Nat} {l : List UInt8} (h : Bytes w B A n l) {k : Nat} (hk : k ≤ n) : Bytes w B A k (l.take k) := by
  refine ⟨by rw [List.length_take, h.1]; omega, ?_⟩
  rcases h.2 with h0 | ⟨b, off, hA, hB, hc⟩
  · exact .inl (by omega)
  · refine .inr ⟨b, off, hA, hB, fun i hi => ?_⟩
    rw [hc i (by omega)]
    simp [List.getD_eq_getElem?_getD, hi]
theorem Bytes.none (w : World) (B : Nat) (A : Option Addr) : Bytes w B A 0 [] := ⟨rfl, .inl rfl⟩

/-- Where a slice begins that is cut at k: at the end of its room it stays where it was. -/
def cutAt (A : Option Addr) (c k : Nat) : Option Addr := if c = k then A else A.map (·.add k)
theorem Bytes.drop {w : World} {B : Nat} {A : Option Addr} {n : Nat} {l : List UInt8} (h : Bytes w B A n l) {k c : Nat} (hk : k ≤ n) (hc : n ≤ c) : Bytes w B (cutAt A c k) (n - k) (l.drop k) := by
  refine ⟨by rw [List.length_drop, h.1], ?_⟩
  by_cases hkn : k = n
  · exact .inl (by omega)
  rcases h.2 with h0 | ⟨b, off, rfl, hB, hcell⟩
  · exact .inl (by omega)
  · refine .inr ⟨b, off + k, ?_, hB, fun i hi => ?_⟩
    · simp [cutAt, show ¬ c = k by omega, Addr.add]
    · rw [Nat.add_assoc, hcell (k + i) (by omega)]
      simp [List.getD_eq_getElem?_getD]
/-- New bytes. -/
def byteCells (l : List UInt8) : Array Value := (l.map fun c => Value.int .u8 (c.toNat : Int)).toArray
theorem bytesNew (w : World) (l : List UInt8) (cs : Array Value) (t : TypeId) (fr : Nat × Nat) (h : cs = byteCells l) (n : Nat) (hn : l.length = n) :
    Bytes (w.alloc (.cells cs t fr)) (w.alloc (.cells cs t fr)).heap.size (some ⟨w.heap.size, 0, none⟩) n l := by
  subst h
  subst hn
  refine ⟨rfl, .inr ⟨w.heap.size, 0, rfl, by simp, fun i hi => ?_⟩⟩
  rw [Nat.zero_add, World.cell?_alloc_mark]
  simp [hi, byteCells]

theorem run_cut (W : World) (a : Option Addr) (n c : Nat) (k : IntKind) (l : Int) (h0 : 0 ≤ l) (h1 : l ≤ n) :
    (Instr.slice 32 (.slice a n c) (some (.int k l)) none none).run Try.prog W = .ok (.slice (cutAt a c l.toNat) (n - l.toNat) (c - l.toNat)) W := by
  rw [run_slice_l (P := Try.prog) (w := W) 32 a n c (by kernel_rfl) k l h0 h1]
  have hs : (sizeOf (Try.prog.elem 32)).run Try.prog W = .ok 1 W := by kernel_rfl
  rw [hs]
  simp [Result.andThen, sliced, cutAt]
end Go.Proofs.Ytkgkppblkdihkaa

namespace Go.Proofs.Ytkgkppblkdihkaa
open Go.ChangeShapes Go.WideShapes Go.ChangeAt Go.WideMaps Go.WideElems Go.RowKit

theorem own : ownKnob Try.prog.godebug = none := by kernel_rfl
theorem laidOut : laidOutB Try.prog = true := by kernel_rfl

theorem open_bytes_cs {H : Type} {enc : TypeId × Value → H} {W : World} {fuel : Nat} {cs : List Value} {x : DataW H × List MemPlace} (hf : DataW.trod enc Try.prog W 0 (fun _ => true) true fuel 32 cs = some x) :
    ∃ a n c, ∃ l : List UInt8, cs = [.slice a n c] ∧ n ≤ c ∧ c ≤ maxLen ∧ Bytes W W.heap.size a n l := by
  rcases open_ints Try.underlying32 Try.underlying5 (by kernel_rfl) hf with ⟨hcs, _⟩ | ⟨x, n, c, zs, hcs, _, hl, hm, hz, _, hcell, hwz⟩
  · exact ⟨none, 0, 0, [], hcs, by omega, by unfold maxLen; omega, Bytes.none _ _ _⟩
  · have hz' : zs.length = c := by simpa using hz
    refine ⟨some x, n, c, (zs.take n).map fun z => UInt8.ofNat z.toNat, hcs, hl, hm, by simp; omega, ?_⟩
    rcases Nat.eq_zero_or_pos n with h0 | h0
    · exact .inl h0
    obtain ⟨b, off, spot⟩ := x
    have hc0 := hcell 0 (by omega)
    have hspot : spot = none := by simpa [Addr.add] using World.cell?_spot hc0
    subst hspot
    refine .inr ⟨b, off, rfl, by simpa [Addr.add] using World.block_lt_of_cell? W _ hc0, fun i hi => ?_⟩
    have h1 := hcell i (by omega)
    have hr : 0 ≤ zs.getD i 0 ∧ zs.getD i 0 ≤ 255 := by
      have := range_u8 hwz i
      rwa [List.getD_eq_getElem?_getD]
    have e : ((((zs.take n).map fun z => UInt8.ofNat z.toNat).getD i 0).toNat : Int) = zs.getD i 0 := by
      have hi' : i < zs.length := by omega
      simp only [List.getD_eq_getElem?_getD, List.getElem?_map, List.getElem?_take, if_pos hi, List.getElem?_eq_getElem hi', Option.map_some, Option.getD_some] at hr ⊢
      rw [UInt8.toNat_ofNat']
      omega
    rw [e]
    have hadd : (⟨b, off, none⟩ : Addr).add i = ⟨b, off + i, none⟩ := by unfold Addr.add; split <;> simp_all
    rwa [hadd] at h1
/-- A slice of bytes that came in: what it reads as. -/
theorem open_bytes {H : Type} {enc : TypeId × Value → H} {W : World} {a : Option Addr} {n c : Nat} {d : DataW H} {p : List MemPlace} (h : DataW.Trod enc Try.prog W 0 (fun _ => true) true 32 (.slice a n c) d p) :
    ∃ l : List UInt8, n ≤ c ∧ c ≤ maxLen ∧ Bytes W W.heap.size a n l := by
  obtain ⟨fuel, hf⟩ := h
  obtain ⟨a', n', c', l, hcs, h1, h2, h3⟩ := open_bytes_cs hf
  simp [Value.cells] at hcs
  obtain ⟨rfl, rfl, rfl⟩ := hcs
  exact ⟨l, h1, h2, h3⟩
end Go.Proofs.Ytkgkppblkdihkaa

namespace Go.Proofs.Ytkgkppblkdihkaa
open Go.RowKit

def byteV (c : UInt8) : Value := .int .u8 (c.toNat : Int)
/-- v is nil, or lies in a block of the call's own (from base on), and reads as these bytes. -/
def OwnB (w : World) (base : Nat) (v : Value) (l : List UInt8) : Prop := w.ownsRow base 5 1 v l.length (l.map byteV)
theorem byte_info : (Try.prog.info? 5).map (fun i => (i.zero, i.size, i.bytes)) = some (some (.int .u8 0), 1, 1) := by kernel_rfl

theorem OwnB.nil (w : World) (base : Nat) : OwnB w base (.slice none 0 0) [] := World.ownsRow_nil w base _ _
theorem Ext.grown {w w' : World} (h : Ext w w') (row : Option Nat) : w.grownBy w' row := ⟨h.os, h.tape, h.output, h.size, fun i hi _ => h.block i hi⟩
theorem OwnB.empty (w : World) {base : Nat} (h : base ≤ w.heap.size) : OwnB (w.alloc (.cells #[] 5)) base (.slice (some ⟨w.heap.size, 0, none⟩) 0 0) [] :=
  World.ownsRow_made (size := 1) w #[] 0 h (by unfold maxLen; omega) (by simp)
theorem OwnB.lit (w : World) (cs : Array Value) (l : List UInt8) (n : Nat) (hcs : cs = (l.map byteV).toArray) (hn : l.length = n) (hm : n ≤ 1000) {base : Nat} (h : base ≤ w.heap.size) :
    OwnB (w.alloc (.cells cs 5)) base (.slice (some ⟨w.heap.size, 0, none⟩) n n) l := by
  subst hcs
  subst hn
  have := World.ownsRow_lit (e := 5) (size := 1) w (l.map byteV).toArray l.length h (by unfold maxLen; omega) (by simp)
  simpa [OwnB] using this
theorem OwnB.ext {w w' : World} {base : Nat} {v : Value} {l : List UInt8} (h : OwnB w base v l) (hE : Ext w w') : OwnB w' base v l :=
  World.ownsRow.kept h (hE.grown none) (by cases hv : v.ownBlock <;> simp)
theorem OwnB.form {w : World} {base : Nat} {v : Value} {l : List UInt8} (h : OwnB w base v l) :
    ∃ A c, v = .slice A l.length c ∧ l.length ≤ c ∧ c ≤ maxLen ∧ Bytes w w.heap.size A l.length l := by
  have hl := h.lt
  rcases h.2 with ⟨rfl, h0⟩ | ⟨g, cap, cur, rfl, hb, hg, hn, hc, hs, ht⟩
  · exact ⟨none, 0, by rw [h0], by omega, by unfold maxLen; omega, rfl, .inl h0⟩
  · refine ⟨_, cap, rfl, hn, hc, rfl, .inr ⟨g, 0, rfl, (hl g rfl).2, fun i hi => ?_⟩⟩
    have hk := World.ownsRow.cellAt h i (by omega)
    rw [Nat.zero_add, hk]
    simp [byteV, hi]
theorem OwnB.form' {w : World} {base : Nat} {v : Value} {l : List UInt8} (h : OwnB w base v l) : ∃ A n c, v = .slice A n c ∧ n ≤ c ∧ n ≤ l.length ∧ Bytes w w.heap.size A n l := by
  obtain ⟨A, c, hv, hc, _, hb⟩ := h.form
  exact ⟨A, _, c, hv, hc, Nat.le_refl _, hb⟩
theorem OwnB.mono {w : World} {base base' : Nat} {v : Value} {l : List UInt8} (h : OwnB w base v l) (hb : base' ≤ base) : OwnB w base' v l :=
  ⟨h.1, h.2.elim Or.inl fun ⟨g, cap, cur, hv, hg, r⟩ => Or.inr ⟨g, cap, cur, hv, Nat.le_trans hb hg, r⟩⟩
/-- How long it may be. -/
theorem OwnB.len_le {w : World} {base : Nat} {v : Value} {l : List UInt8} (h : OwnB w base v l) : l.length ≤ maxLen := by
  obtain ⟨_, c, _, h1, h2, _⟩ := h.form
  omega

theorem run_append_zero (w : World) (ty : TypeId) (base : Nat) (v : Value) (l : List UInt8) (hown : OwnB w base v l) (A : Option Addr) (c : Nat) :
    (Builtin.append_ #[32, 32] ty #[v, .slice A 0 c]).run Try.prog w = .ok v w := by
  obtain ⟨i, hi, _, _, _⟩ := info_parts byte_info
  rcases hown.2 with ⟨rfl, _⟩ | ⟨g, cap, cur, rfl, _, _, hnc, _⟩
  · cases A <;> simp [Builtin.append_, run_underlying Try.underlying32, sizeOf, typeInfo, hi, Builtin.lenOf, Builtin.firstCells, loadCells, loadCellsFrom]
  · cases A <;> simp [Builtin.append_, run_underlying Try.underlying32, sizeOf, typeInfo, hi, Builtin.lenOf, Builtin.firstCells, loadCells, loadCellsFrom, hnc, storeCells]

/-- Where bytes of the call's own lie, if there are any. -/
theorem OwnB.formG {w : World} {base : Nat} {v : Value} {l : List UInt8} (h : OwnB w base v l) (hl : 0 < l.length) : ∃ g c, v = .slice (some ⟨g, 0, none⟩) l.length c ∧ base ≤ g ∧ l.length ≤ c := by
  rcases h.2 with ⟨_, h0⟩ | ⟨g, cap, _, rfl, hb, _, hn, _⟩
  · omega
  · exact ⟨g, cap, rfl, hb, hn⟩
theorem OwnB.cell {w : World} {base g n c : Nat} {l : List UInt8} (h : OwnB w base (.slice (some ⟨g, 0, none⟩) n c) l) {i : Nat} (hi : i < l.length) :
    w.cell? ⟨g, i, none⟩ = some (.int .u8 ((l.getD i 0).toNat : Int)) ∧ w.frozen? ⟨g, i, none⟩ = false := by
  have hn : n = l.length := by
    rcases h.2 with ⟨h', _⟩ | ⟨_, _, _, h', _⟩
    · simp at h'
    · simp only [Value.slice.injEq] at h'; exact h'.2.1
  subst hn
  refine ⟨?_, World.ownsRow.frozenAt h i⟩
  rw [World.ownsRow.cellAt h i (by omega)]
  simp [byteV, hi]
theorem OwnB.set {w : World} {base g n c : Nat} {l : List UInt8} (h : OwnB w base (.slice (some ⟨g, 0, none⟩) n c) l) (i : Nat) (x : UInt8) :
    OwnB (w.setCell ⟨g, i, none⟩ (.int .u8 (x.toNat : Int))) base (.slice (some ⟨g, 0, none⟩) n c) (l.set i x) := by
  have hn : n = l.length := by
    rcases h.2 with ⟨h', _⟩ | ⟨_, _, _, h', _⟩
    · simp at h'
    · simp only [Value.slice.injEq] at h'; exact h'.2.1
  subst hn
  have := (World.ownsRow.stored h i (byteV x)).1
  unfold OwnB
  rw [List.length_set, List.map_set]
  exact this
/-- append of bytes, wherever they lie. -/
theorem app_run {w : World} (ty : TypeId) {base : Nat} {v : Value} {l : List UInt8} (hown : OwnB w base v l) {A : Option Addr} {m : Nat} {k : List UInt8} (c : Nat) (hb : Bytes w w.heap.size A m k)
    (hlen : l.length + m ≤ 140737488355328) (hbase : base ≤ w.heap.size) :
    ∃ v' w', (Builtin.append_ #[32, 32] ty #[v, .slice A m c]).run Try.prog w = .ok v' w' ∧ OwnB w' base v' (l ++ k) ∧ w.grownBy w' v.ownBlock := by
  obtain ⟨hk, hb⟩ := hb
  rcases hb with rfl | ⟨b, off, rfl, hB, hc⟩
  · obtain rfl := List.eq_nil_of_length_eq_zero hk
    exact ⟨v, w, run_append_zero w ty base v l hown A c, by simpa using hown, World.grownBy.refl w _⟩
  · obtain ⟨i, hi, hz, hs, hby⟩ := info_parts byte_info
    obtain ⟨v', w', hr, h2, h3, _⟩ := run_append_own (P := Try.prog) w base 32 ty 5 i _ 1 1 Try.underlying32 hi hz hs hby rfl (by omega) v l.length (l.map byteV) hown
      ⟨b, off, none⟩ m c (k.map byteV) (by simpa using hk) (by
        intro j u hu
        have hj : j < m := by
          rcases Nat.lt_or_ge j m with h | h
          · exact h
          · rw [List.getElem?_eq_none (by simp; omega)] at hu; cases hu
        have hadd : (⟨b, off, none⟩ : Addr).add j = ⟨b, off + j, none⟩ := by unfold Addr.add; split <;> simp_all
        rw [hadd, hc j hj]
        rw [List.getElem?_map, List.getElem?_eq_getElem (by omega)] at hu
        rw [List.getD_eq_getElem?_getD, List.getElem?_eq_getElem (by omega)]
        simpa [byteV] using hu) (by
        intro u hu
        obtain ⟨x, _, rfl⟩ := List.mem_map.1 hu
        rfl) (by unfold maxLen; omega) (by omega) hbase
    refine ⟨v', w', hr, ?_, h3⟩
    unfold OwnB
    rw [List.length_append, hk, List.map_append]
    exact h2
/-- append of one byte: it is laid in a block of its own first. -/
theorem app_one {w : World} (ty : TypeId) {base : Nat} {v : Value} {l : List UInt8} (hown : OwnB w base v l) (x : UInt8) (hlen : l.length + 1 ≤ 140737488355328) (hbase : base ≤ w.heap.size) :
    ∃ v' w', (Builtin.append_ #[32, 32] ty #[v, .slice (some ⟨w.heap.size, 0, none⟩) 1 1]).run Try.prog (w.alloc (.cells #[.int .u8 (x.toNat : Int)] 5)) = .ok v' w' ∧ OwnB w' base v' (l ++ [x]) ∧
      (w.alloc (.cells #[.int .u8 (x.toNat : Int)] 5)).grownBy w' v.ownBlock :=
  app_run ty (hown.ext (extNew w _)) 1 (bytesNew w [x] _ _ _ rfl 1 rfl) hlen (by simp; omega)
/-- The same at the operation. -/
theorem wp_app {o : Oper} {a : Act} {K : Act → World → Prop} {Q : Exit → Act → World → Prop} {w : World} (s x : Operand)
    (ho : o.op = .call { callee := .builtin .append, args := #[s, x], argTypes := #[32, 32] }) {base : Nat} {v : Value} {l : List UInt8} (hs : a.eval s = v) (hown : OwnB w base v l)
    {A : Option Addr} {m c : Nat} {k : List UInt8} (hx : a.eval x = .slice A m c) (hb : Bytes w w.heap.size A m k) (hlen : l.length + m ≤ 140737488355328) (hbase : base ≤ w.heap.size)
    (h : ∀ v' w', OwnB w' base v' (l ++ k) → w.grownBy w' v.ownBlock → K (a.put o.dst v') w') : o.wp Try.prog a w K Q := by
  obtain ⟨v', w', hr, h2, h3⟩ := app_run o.type hown c hb hlen hbase
  unfold Oper.wp execOp
  simp only [ho, resolve, invoke, builtin, Sem.run_bind, Sem.run_pure, Result.andThen_ok, List.map_toArray, List.map_cons, List.map_nil, hs, hx, hr]
  exact h v' w' h2 h3
/-- The same for a walk of a plain region. -/
theorem wpList_app {ops : Array Oper} {rest : List Oper} {o : Oper} {a : Act} {Q : Exit → Act → World → Prop} {w : World} (hgd : o.guard = none) (s x : Operand)
    (ho : o.op = .call { callee := .builtin .append, args := #[s, x], argTypes := #[32, 32] }) {base : Nat} {v : Value} {l : List UInt8} (hs : a.eval s = v) (hown : OwnB w base v l)
    {A : Option Addr} {m c : Nat} {k : List UInt8} (hx : a.eval x = .slice A m c) (hb : Bytes w w.heap.size A m k) (hlen : l.length + m ≤ 140737488355328) (hbase : base ≤ w.heap.size)
    (h : ∀ v' w', OwnB w' base v' (l ++ k) → w.grownBy w' v.ownBlock → wpList Try.prog ops Q rest (a.put o.dst v') w') : wpList Try.prog ops Q (o :: rest) a w :=
  wpList_plain hgd fun _ hK => wp_app s x ho hs hown hx hb hlen hbase fun v' w' h2 h3 => hK _ _ (h v' w' h2 h3)
/-- The same for a region that draws its order. -/
theorem step_app {ops : Array Oper} {o : Oper} {a : Act} {K : Act → World → Prop} {Q : Exit → Act → World → Prop} {E : Prop} {w : World} (hgd : o.guard = none) (s x : Operand)
    (ho : o.op = .call { callee := .builtin .append, args := #[s, x], argTypes := #[32, 32] }) {base : Nat} {v : Value} {l : List UInt8} (hs : a.eval s = v) (hown : OwnB w base v l)
    {A : Option Addr} {m c : Nat} {k : List UInt8} (hx : a.eval x = .slice A m c) (hb : Bytes w w.heap.size A m k) (hlen : l.length + m ≤ 140737488355328) (hbase : base ≤ w.heap.size)
    (h : ∀ v' w', OwnB w' base v' (l ++ k) → w.grownBy w' v.ownBlock → K (a.put o.dst v') w') :
    if Region.wanted o (yielded ops a.tmps) = true then Oper.wp Try.prog o a w K Q else E := by
  have hw : Region.wanted o (yielded ops a.tmps) = true := by simp [Region.wanted, hgd]
  rw [if_pos hw]
  exact wp_app s x ho hs hown hx hb hlen hbase h
/-- Behind a call that makes bytes: they lie in new memory. -/
def MadeB (w : World) (l : List UInt8) (e : Ending) (w' : World) : Prop := ∃ v, e = .returned v ∧ OwnB w' w.heap.size v l ∧ Ext w w'
/-- What an append leaves of the memory below base. -/
theorem OwnB.below {w0 w w' : World} {base : Nat} {v : Value} {l : List UInt8} (h : OwnB w base v l) (hb : Below base w0 w) (hg : w.grownBy w' v.ownBlock) (hbase : base ≤ w.heap.size) : Below base w0 w' :=
  hb.grown hg hbase fun k hk => (h.lt k hk).1
end Go.Proofs.Ytkgkppblkdihkaa

namespace Go.Proofs.Ytkgkppblkdihkaa
open Go.RowKit

def sameB (a b : List UInt8) : Bool := decide (a = b)
theorem sameB_true {a b : List UInt8} (h : a = b) : sameB a b = true := decide_eq_true h
theorem sameB_false {a b : List UInt8} (h : a ≠ b) : sameB a b = false := decide_eq_false h
end Go.Proofs.Ytkgkppblkdihkaa

namespace Go.Proofs.Ytkgkppblkdihkaa
open Go.RowKit

theorem conv_bytes {w : World} {B : Nat} {A : Option Addr} {n : Nat} {l : List UInt8} (c : Nat) (h : Bytes w B A n l) (hA : A = none → n = 0) :
    (convert 32 9 (.slice A n c)).run Try.prog w = .ok (.string ⟨l.toArray⟩) w := by
  obtain ⟨hl, hb⟩ := h
  rcases A with _ | ad
  · obtain rfl := hA rfl
    obtain rfl := List.eq_nil_of_length_eq_zero hl
    exact run_convert_bytes_nil w 32 5 Try.underlying32 Try.underlying5 0 c 9 Try.underlying9
  · subst hl
    refine run_convert_bytes_back w 32 9 5 ad c l Try.underlying32 Try.underlying5 Try.underlying9 fun j hj => ?_
    rcases hb with h0 | ⟨b, off, hA, _, hc⟩
    · omega
    · obtain rfl : ad = ⟨b, off, none⟩ := by injection hA
      have hadd : (⟨b, off, none⟩ : Addr).add j = ⟨b, off + j, none⟩ := by unfold Addr.add; split <;> simp_all
      rw [hadd, hc j hj, List.getD_eq_getElem?_getD, List.getElem?_eq_getElem hj]
      rfl

theorem same_beq (a b : List UInt8) : sameB a b = (a == b) := by
  by_cases h : a = b
  · rw [sameB_true h]; simp [h]
  · rw [sameB_false h]; simp [h]
end Go.Proofs.Ytkgkppblkdihkaa

namespace Go.Proofs.Ytkgkppblkdihkaa
open Go.RowKit

/-- Block g is just these cells, none of them frozen. -/
def Whole (w : World) (g : Nat) (t : TypeId) (cs : Array Value) : Prop := w.heap[g]? = some (.cells cs t (0, 0))
section
variable {w W : World} {g : Nat} {t : TypeId} {cs : Array Value}
theorem Whole.lt (h : Whole w g t cs) : g < w.heap.size := (Array.getElem?_eq_some_iff.1 h).1
theorem Whole.cell (h : Whole w g t cs) (i : Nat) : w.cell? ⟨g, i, none⟩ = cs[i]? := cell_of_row w g i cs t (0, 0) h
theorem Whole.frozen (h : Whole w g t cs) (i : Nat) : w.frozen? ⟨g, i, none⟩ = false := frozen_of_row w g i cs t h
theorem Whole.new (w : World) (t : TypeId) (cs : Array Value) : Whole (w.alloc (.cells cs t)) w.heap.size t cs := heap_alloc_new w _
theorem Whole.alloc (h : Whole w g t cs) (o : Obj) : Whole (w.alloc o) g t cs := (Below.heap_alloc w o g h.lt).trans h
theorem Whole.set (h : Whole w g t cs) (i : Nat) (u : Value) : Whole (w.setCell ⟨g, i, none⟩ u) g t (cs.setIfInBounds i u) := heap_setCell_same w g i cs t u h
theorem Whole.far (h : Whole w g t cs) {b : Nat} (hb : g ≠ b) (i : Nat) (u : Value) : Whole (w.setCell ⟨b, i, none⟩ u) g t cs := (Below.heap_setCell w ⟨b, i, none⟩ u g hb).trans h
theorem Whole.ext (h : Whole w g t cs) (hE : Ext w W) : Whole W g t cs := (hE.block g h.lt).trans h
theorem Whole.below {B : Nat} (h : Whole w g t cs) (hE : Below B w W) (hg : g < B) : Whole W g t cs := (hE.block g hg).trans h
theorem Whole.grown (h : Whole w g t cs) {b : Nat} (hE : w.grownBy W (some b)) (hb : g ≠ b) : Whole W g t cs := (hE.block g h.lt (by simpa using hb)).trans h
end
theorem setCells_grown (g : Nat) : ∀ (vs : List Value) (o : Nat) (w : World), w.grownBy (w.setCells g o vs) (some g) ∧ (w.setCells g o vs).heap.size = w.heap.size
  | [], _, w => ⟨World.grownBy.refl w _, rfl⟩
  | v :: r, o, w => by
    have h1 : w.grownBy (w.setCell ⟨g, o, none⟩ v) (some g) := ⟨rfl, rfl, rfl, by simp, fun k _ hk => Below.heap_setCell w ⟨g, o, none⟩ v k (fun e => hk (by rw [e]))⟩
    obtain ⟨h2, h3⟩ := setCells_grown g r (o + 1) (w.setCell ⟨g, o, none⟩ v)
    exact ⟨h1.trans h2, by show ((w.setCell ⟨g, o, none⟩ v).setCells g (o + 1) r).heap.size = _; rw [h3]; simp⟩
theorem Whole.setCells {g : Nat} {t : TypeId} : ∀ (vs : List Value) (o : Nat) (w : World) (cs : Array Value), Whole w g t cs → o + vs.length ≤ cs.size →
    ∃ cs', Whole (w.setCells g o vs) g t cs' ∧ cs'.size = cs.size ∧ (∀ i, i < o → cs'[i]? = cs[i]?) ∧ ∀ j, j < vs.length → cs'[o + j]? = vs[j]?
  | [], _, _, cs, h, _ => ⟨cs, h, rfl, fun _ _ => rfl, fun j hj => by simp at hj⟩
  | v :: r, o, w, cs, h, hl => by
    simp only [List.length_cons] at hl
    obtain ⟨cs', h1, h2, h3, h4⟩ := Whole.setCells r (o + 1) (w.setCell ⟨g, o, none⟩ v) _ (h.set o v) (by simp; omega)
    refine ⟨cs', h1, by simpa using h2, fun i hi => by rw [h3 i (by omega), Array.getElem?_setIfInBounds_ne (by omega)], fun j hj => ?_⟩
    rcases j with _ | j
    · rw [Nat.add_zero, h3 o (by omega), Array.getElem?_setIfInBounds_self_of_lt (by omega)]
      rfl
    · rw [show o + (j + 1) = o + 1 + j by omega, h4 j (by simpa using hj)]
      rfl
theorem Whole.storeAll {w : World} {g : Nat} {t : TypeId} {cs cells : Array Value} (h : Whole w g t cs) (hs : cells.size = cs.size) : Whole (w.setCells g 0 cells.toList) g t cells := by
  obtain ⟨cs', h1, h2, _, h4⟩ := Whole.setCells cells.toList 0 w cs h (by simp [hs])
  have : cs' = cells := by
    apply Array.ext_getElem?
    intro i
    by_cases hi : i < cells.size
    · have := h4 i (by simpa using hi)
      rw [Nat.zero_add] at this
      rw [this]; simp
    · rw [Array.getElem?_eq_none (by omega), Array.getElem?_eq_none (by omega)]
  rwa [this] at h1
/-- An element of an array as a value. -/
theorem run_indexArr {P : Program} (t e : TypeId) (n : Nat) (cs : Array Value) (k : IntKind) (i : Nat) (v : Value) (W : World) (ht : P.underlying t = some (.array n e)) (hn : i < n) (hs : ∀ W, (sizeOf e).run P W = .ok 1 W) (ha : ∀ W, (isAgg e).run P W = .ok false W) (hv : cs[i]? = some v) :
    (Instr.index t (.agg cs) (.int k (i : Int))).run P W = .ok v W := by
  have h1 : (0 : Int) ≤ (i : Int) ∧ (i : Int) < (n : Int) := by omega
  simp [Instr.index, asIntOf, run_underlying ht, h1, hs, part, ha, hv]
  exact fun h => absurd hn (by omega)
/-- A whole array stored into a block that is known whole. -/
theorem wpList_storeW {P : Program} {ops : Array Oper} {rest : List Oper} {op : Oper} {a : Act} {w : World} {Q : Exit → Act → World → Prop} (hgd : op.guard = none) (ty : TypeId) (x y : Operand) (ho : op.op = .store ty x y)
    {g : Nat} {t : TypeId} {cs cells : Array Value} (hx : a.eval x = .pointer (some ⟨g, 0, none⟩)) (hy : a.eval y = .agg cells) (hw : Whole w g t cs) (hs : cells.size = cs.size)
    (hi : (P.info? ty).map (·.size) = some cells.size) (h1 : cells.all (·.oneCell') = true)
    (h : ∀ w', Whole w' g t cells → w.grownBy w' (some g) → w'.heap.size = w.heap.size → wpList P ops Q rest (a.put op.dst undef) w') : wpList P ops Q (op :: rest) a w := by
  refine wpList_store_mid hgd ty x y ho g 0 cells hx hy (fun j hj => ?_) hi h1 (h _ (hw.storeAll hs) (setCells_grown g _ _ _).1 (setCells_grown g _ _ _).2)
  rw [Nat.zero_add]
  refine ⟨?_, hw.frozen j⟩
  rw [hw.cell j, Array.getElem?_eq_getElem (by omega)]
  rfl
end Go.Proofs.Ytkgkppblkdihkaa

namespace Go.Proofs.Ytkgkppblkdihkaa
open Go.RowKit

theorem ret_i64 {a b : Int} (h : a = b) : Ending.returned (.int .i64 a) = .returned (.int .i64 b) := by rw [h]
/-- Everything that was there is there as it was, but block g and block ob. -/
structure Mod (w w' : World) (g : Nat) (ob : Option Nat) : Prop where
  os : w'.os = w.os
  tape : w'.tape = w.tape
  output : w'.output = w.output
  size : w.heap.size ≤ w'.heap.size
  block : ∀ k, k < w.heap.size → k ≠ g → some k ≠ ob → w'.heap[k]? = w.heap[k]?
/-- The own block is the one that it was, or was made since. -/
def NewOb (w : World) (ob ob' : Option Nat) : Prop := ob' = ob ∨ ∃ n, ob' = some n ∧ w.heap.size ≤ n
theorem NewOb.same (w : World) (ob : Option Nat) : NewOb w ob ob := .inl rfl
theorem NewOb.trans {a b : World} {o1 o2 o3 : Option Nat} (h : NewOb a o1 o2) (hs : a.heap.size ≤ b.heap.size) (k : NewOb b o2 o3) : NewOb a o1 o3 := by
  rcases k with rfl | ⟨n, rfl, hn⟩
  · exact h
  · exact .inr ⟨n, rfl, by omega⟩
theorem NewOb.ne {w : World} {ob ob' : Option Nat} (h : NewOb w ob ob') {g : Nat} (hg : g < w.heap.size) (ho : ob ≠ some g) : ob' ≠ some g := by
  rcases h with rfl | ⟨n, rfl, hn⟩
  · exact ho
  · intro e
    injection e with e
    omega
theorem NewOb.le {w : World} {ob ob' : Option Nat} (h : NewOb w ob ob') {b : Nat} (hb : b ≤ w.heap.size) (ho : ∀ k, ob = some k → b ≤ k) : ∀ k, ob' = some k → b ≤ k := by
  rcases h with rfl | ⟨n, rfl, hn⟩
  · exact ho
  · intro k e
    injection e with e
    omega
section
variable {a b c w w' : World} {g : Nat} {ob ob' : Option Nat}
theorem Mod.refl (w : World) (g : Nat) (ob : Option Nat) : Mod w w g ob := ⟨rfl, rfl, rfl, Nat.le_refl _, fun _ _ _ _ => rfl⟩
theorem Mod.trans (h : Mod a b g ob) (k : Mod b c g ob') (ho : NewOb a ob ob') : Mod a c g ob :=
  ⟨k.os.trans h.os, k.tape.trans h.tape, k.output.trans h.output, Nat.le_trans h.size k.size, fun i hi hg hb =>
    (k.block i (Nat.lt_of_lt_of_le hi h.size) hg (fun e => ho.ne hi (fun e' => hb e'.symm) e.symm)).trans (h.block i hi hg hb)⟩
theorem Mod.ofRow (h : w.grownBy w' (some g)) : Mod w w' g ob := ⟨h.os, h.tape, h.output, h.size, fun k hk hg _ => h.block k hk (fun e => hg (by injection e))⟩
theorem Mod.ofOwn (h : w.grownBy w' ob) : Mod w w' g ob := ⟨h.os, h.tape, h.output, h.size, fun k hk _ ho => h.block k hk ho⟩
theorem Mod.ofExt (h : Ext w w') : Mod w w' g ob := ⟨h.os, h.tape, h.output, h.size, fun k hk _ _ => h.block k hk⟩
theorem Mod.drew (w : World) : Mod w w.drew g ob := Mod.ofExt (Ext.refl w).drew
theorem Mod.below (h : Mod a b g ob) {B : Nat} (hB : B ≤ a.heap.size) (hg : B ≤ g) (ho : ∀ k, ob = some k → B ≤ k) : Below B a b :=
  ⟨h.os, h.tape, h.output, h.size, fun k hk => h.block k (by omega) (by omega) (fun e => by have := ho k e.symm; omega)⟩
theorem Mod.whole (h : Mod w w' g ob) {x : Nat} {t : TypeId} {cs : Array Value} (hw : Whole w x t cs) (hg : x ≠ g) (ho : ob ≠ some x) : Whole w' x t cs := (h.block x hw.lt hg (fun e => ho e.symm)).trans hw
theorem Mod.own (h : Mod w w' g ob) {base : Nat} {v : Value} {l : List UInt8} (hv : OwnB w base v l) (hg : v.ownBlock ≠ some g) (ho : v.ownBlock = none ∨ v.ownBlock ≠ ob) : OwnB w' base v l := by
  refine ⟨hv.1, ?_⟩
  rcases hv.2 with hn | ⟨x, cap, cur, rfl, hb, hgg, rest⟩
  · exact .inl hn
  · refine .inr ⟨x, cap, cur, rfl, hb, ?_, rest⟩
    rw [h.block x (Array.getElem?_eq_some_iff.1 hgg).1 (by intro e; subst e; simp [Value.ownBlock] at hg) (by
      intro e
      rcases ho with ho | ho
      · simp [Value.ownBlock] at ho
      · exact ho (by simpa [Value.ownBlock] using e))]
    exact hgg
theorem Mod.cell (h : Mod w w' g ob) {x i : Nat} (hx : x < w.heap.size) (hg : x ≠ g) (ho : ob ≠ some x) : w'.cell? ⟨x, i, none⟩ = w.cell? ⟨x, i, none⟩ :=
  World.cell?_of_block (a := ⟨x, i, none⟩) (h.block x hx hg (fun e => ho e.symm))
end
theorem OwnB.newOb {w : World} {base : Nat} {v : Value} {l : List UInt8} (h : OwnB w base v l) : ∀ k, v.ownBlock = some k → base ≤ k := fun k hk => (h.lt k hk).1
theorem OwnB.ltOb {w : World} {base : Nat} {v : Value} {l : List UInt8} (h : OwnB w base v l) : ∀ k, v.ownBlock = some k → k < w.heap.size := fun k hk => (h.lt k hk).2
theorem OwnB.far {w : World} {base g : Nat} {v : Value} {l : List UInt8} (h : OwnB w base v l) (hg : v.ownBlock ≠ some g) (i : Nat) (u : Value) : OwnB (w.setCell ⟨g, i, none⟩ u) base v l :=
  (Mod.ofRow (ob := none) (show w.grownBy (w.setCell ⟨g, i, none⟩ u) (some g) from ⟨rfl, rfl, rfl, by simp, fun k _ hk => Below.heap_setCell w ⟨g, i, none⟩ u k (fun e => hk (by rw [e]))⟩)).own h hg (by cases v.ownBlock <;> simp)
theorem grown_setCell (w : World) (g i : Nat) (u : Value) : w.grownBy (w.setCell ⟨g, i, none⟩ u) (some g) := ⟨rfl, rfl, rfl, by simp, fun k _ hk => Below.heap_setCell w ⟨g, i, none⟩ u k (fun e => hk (by rw [e]))⟩

/-- append of bytes, wherever they lie; where what comes back lies. -/
theorem app_run_at {w : World} (ty : TypeId) {base : Nat} {v : Value} {l : List UInt8} (hown : OwnB w base v l) {A : Option Addr} {m : Nat} {k : List UInt8} (c : Nat) (hb : Bytes w w.heap.size A m k)
    (hlen : l.length + m ≤ 140737488355328) (hbase : base ≤ w.heap.size) :
    ∃ v' w', (Builtin.append_ #[32, 32] ty #[v, .slice A m c]).run Try.prog w = .ok v' w' ∧ OwnB w' base v' (l ++ k) ∧ w.grownBy w' v.ownBlock ∧ NewOb w v.ownBlock v'.ownBlock := by
  obtain ⟨hk, hb⟩ := hb
  rcases hb with rfl | ⟨b, off, rfl, hB, hc⟩
  · obtain rfl := List.eq_nil_of_length_eq_zero hk
    exact ⟨v, w, run_append_zero w ty base v l hown A c, by simpa using hown, World.grownBy.refl w _, .inl rfl⟩
  · obtain ⟨i, hi, hz, hs, hby⟩ := info_parts byte_info
    obtain ⟨v', w', hr, h2, h3, _, h5⟩ := run_append_own_at (P := Try.prog) w base 32 ty 5 i _ 1 1 Try.underlying32 hi hz hs hby rfl (by omega) v l.length (l.map byteV) hown
      ⟨b, off, none⟩ m c (k.map byteV) (by simpa using hk) (by
        intro j u hu
        have hj : j < m := by
          rcases Nat.lt_or_ge j m with h | h
          · exact h
          · rw [List.getElem?_eq_none (by simp; omega)] at hu; cases hu
        have hadd : (⟨b, off, none⟩ : Addr).add j = ⟨b, off + j, none⟩ := by unfold Addr.add; split <;> simp_all
        rw [hadd, hc j hj]
        rw [List.getElem?_map, List.getElem?_eq_getElem (by omega)] at hu
        rw [List.getD_eq_getElem?_getD, List.getElem?_eq_getElem (by omega)]
        simpa [byteV] using hu) (by
        intro u hu
        obtain ⟨x, _, rfl⟩ := List.mem_map.1 hu
        rfl) (by unfold maxLen; omega) (by omega) hbase
    refine ⟨v', w', hr, ?_, h3, h5.imp id fun h => ⟨_, h, Nat.le_refl _⟩⟩
    unfold OwnB
    rw [List.length_append, hk, List.map_append]
    exact h2
theorem zeroCells_byte (n : Nat) : Builtin.zeroCells (Value.int .u8 0).cells n = ((List.replicate n (0 : UInt8)).map byteV).toArray := by
  apply Array.ext
  · rw [size_zeroCells]; simp [Value.cells]
  · intro i h1 h2
    simp [Builtin.zeroCells, Value.cells, byteV, Nat.mod_one]
/-- append of n bytes 0. -/
theorem app_zero_run {w : World} (ty : TypeId) {base : Nat} {v : Value} {l : List UInt8} (hown : OwnB w base v l) (n : Nat) (hlen : l.length + n ≤ 140737488355328) (hbase : base ≤ w.heap.size) :
    ∃ v' w', (Builtin.append_ #[32, 3] ty #[v, .int .i64 n]).run Try.prog w = .ok v' w' ∧ OwnB w' base v' (l ++ List.replicate n 0) ∧ w.grownBy w' v.ownBlock ∧ NewOb w v.ownBlock v'.ownBlock := by
  obtain ⟨i, hi, hz, hs, hby⟩ := info_parts byte_info
  have hw : IntKind.i64.wrap (n : Int) = n := by rw [IntKind.wrap_i64]; omega
  have hneg : ¬ ((n : Int) < 0) := by omega
  have hw0 : IntKind.i64.wrap 0 = 0 := by rw [IntKind.wrap_i64]; omega
  have h48i : ¬ (281474976710656 < (n : Int)) := by omega
  have hsz : Try.prog.info? 5 = some i := hi
  -- what the growing arm leaves
  have grown : ∀ (old : Nat), old < l.length + n → ∀ (row : Option Nat),
      OwnB (w.drew.alloc (.cells ((l.map byteV).toArray ++ Builtin.zeroCells (Value.int .u8 0).cells n ++ Builtin.zeroCells (Value.int .u8 0).cells (grownCap w (l.length + n) old 5 - (l.length + n))) 5)) base
        (.slice (some ⟨w.heap.size, 0, none⟩) (l.length + n) (grownCap w (l.length + n) old 5)) (l ++ List.replicate n 0) ∧
      w.grownBy (w.drew.alloc (.cells ((l.map byteV).toArray ++ Builtin.zeroCells (Value.int .u8 0).cells n ++ Builtin.zeroCells (Value.int .u8 0).cells (grownCap w (l.length + n) old 5 - (l.length + n))) 5)) row := by
    intro old ho row
    have hge := grownCap_ge w (l.length + n) old 5
    have hcm : grownCap w (l.length + n) old 5 ≤ maxLen := grownCap_le_maxLen w (l.length + n) old 5 (by unfold maxLen; omega)
    refine ⟨?_, ⟨rfl, rfl, rfl, by simp, fun k hk _ => Below.heap_alloc w.drew _ k hk⟩⟩
    unfold OwnB
    rw [List.length_append, List.length_replicate]
    refine ⟨by simp, .inr ⟨w.heap.size, _, _, rfl, hbase, heap_alloc_new w.drew _, hge, hcm, ?_, ?_⟩⟩
    · simp only [Array.size_append, size_zeroCells]
      simp [Value.cells]
      omega
    · rw [zeroCells_byte n, List.map_append]
      simp only [Array.toList_append, Nat.mul_one]
      rw [List.take_append_of_le_length (by simp), List.take_of_length_le (by simp)]
  rcases hown.2 with ⟨rfl, h0⟩ | ⟨g, cap, cur, rfl, hbg, hg, hnc, hcm, hcs, htake⟩
  · have hl : l = [] := List.eq_nil_of_length_eq_zero h0
    subst hl
    by_cases hn : n = 0
    · subst hn
      refine ⟨.slice none 0 0, w, ?_, by simpa using hown, World.grownBy.refl w _, .inl rfl⟩
      simp [Builtin.append_, run_underlying Try.underlying32, run_underlying Try.underlying3, sizeOf, typeInfo, hsz, asInt, asIntOf, hby, hw0]
    · have h48' : ¬ (281474976710656 < Builtin.nextslicecap n 0) := by rw [nextslicecap_zero (by omega)]; omega
      have h63' : ¬ (9223372036854775807 < (n : Int)) := by omega
      have hgr := grown 0 (by simp; omega) (Value.ownBlock (.slice none 0 0))
      simp only [List.length_nil, Nat.zero_add, List.map_nil, List.nil_append, Array.empty_append] at hgr ⊢
      refine ⟨_, _, ?_, hgr.1, hgr.2, .inr ⟨_, rfl, Nat.le_refl _⟩⟩
      simp [Builtin.append_, run_underlying Try.underlying32, run_underlying Try.underlying3, sizeOf, typeInfo, zeroValue, hsz, hz, asInt, asIntOf, hs, hby, hw, hneg, h48i, hn, h48', h63', Question.forced, run_firstCells_none, newRow, grownCap]
  · by_cases hroom : l.length + n ≤ cap
    · by_cases hn : n = 0
      · subst hn
        refine ⟨_, w, ?_, by simpa using hown, World.grownBy.refl w _, .inl rfl⟩
        simp [Builtin.append_, run_underlying Try.underlying32, run_underlying Try.underlying3, sizeOf, typeInfo, hsz, asInt, asIntOf, hw0, hnc, storeCells]
      have hst := run_storeCells_at Try.prog g l.length 5 ((List.replicate n (0 : UInt8)).map byteV) 0 cur w hg (by simp; omega) (by
        intro u hu
        obtain ⟨x, _, rfl⟩ := List.mem_map.1 hu
        rfl)
      have hsr := setRow_heap w g cur ((cur.toList.take (l.length + 0) ++ (List.replicate n (0 : UInt8)).map byteV ++ cur.toList.drop (l.length + 0 + ((List.replicate n (0 : UInt8)).map byteV).length)).toArray) _ _ hg
      have hzc : (Builtin.zeroCells (Value.int .u8 0).cells n).toList = (List.replicate n (0 : UInt8)).map byteV := by rw [zeroCells_byte]
      refine ⟨.slice (some ⟨g, 0, none⟩) (l.length + n) cap, w.setRow g ((cur.toList.take (l.length + 0) ++ (List.replicate n (0 : UInt8)).map byteV ++ cur.toList.drop (l.length + 0 + ((List.replicate n (0 : UInt8)).map byteV).length)).toArray), ?_, ?_,
        ⟨rfl, rfl, rfl, by simp, fun k _ hk => setRow_other w g k _ (fun e => hk (by simp [Value.ownBlock, e]))⟩, .inl rfl⟩
      · simp [Builtin.append_, run_underlying Try.underlying32, run_underlying Try.underlying3, sizeOf, typeInfo, zeroValue, hsz, hz, asInt, asIntOf, hs, hby, hw, hneg, h48i, hn, hroom, Addr.add_lit, hzc, -List.map_replicate]
        rw [hst]
        simp [-List.map_replicate]
      · unfold OwnB
        rw [List.length_append, List.length_replicate]
        refine ⟨by simp, .inr ⟨g, cap, _, rfl, hbg, hsr, hroom, hcm, ?_, ?_⟩⟩
        · simp; omega
        · rw [Nat.mul_one] at htake
          rw [Nat.add_zero, htake, List.map_append, Nat.mul_one]
          rw [List.take_append_of_le_length (by simp), List.take_of_length_le (by simp)]
    · have hlo : (l.map byteV).length = l.length * i.size := by rw [hs]; simp
      have hfo := run_firstCells_some (P := Try.prog) w.drew i.size l.length ⟨g, 0, none⟩ l.length cap (l.map byteV) hlo (by simpa using hown.cells (g := g) rfl)
      have hgr := grown cap (by omega) (Value.ownBlock (.slice (some ⟨g, 0, none⟩) l.length cap))
      have hn : n ≠ 0 := by omega
      have h63' : ¬ (9223372036854775807 < ((l.length : Int) + (n : Int))) := by omega
      have h48' : ¬ (281474976710656 < Builtin.nextslicecap (l.length + n) cap) := by
        have := growslice_fits (need := l.length + n) (old := cap) (bytes := 1) (by omega) (by omega)
        omega
      refine ⟨_, _, ?_, hgr.1, hgr.2, .inr ⟨_, rfl, Nat.le_refl _⟩⟩
      simp [Builtin.append_, run_underlying Try.underlying32, run_underlying Try.underlying3, sizeOf, typeInfo, zeroValue, hsz, hz, asInt, asIntOf, hs, hby, hw, hneg, h48i, hn, hroom, h63', h48', Question.forced, newRow, grownCap]
      rw [hs] at hfo
      simp [hfo]
section
variable {o : Oper} {a : Act} {K : Act → World → Prop} {Q : Exit → Act → World → Prop} {w : World} {base : Nat} {v : Value} {l : List UInt8}
theorem wp_appAt (s x : Operand) (ho : o.op = .call { callee := .builtin .append, args := #[s, x], argTypes := #[32, 32] }) (hs : a.eval s = v) (hown : OwnB w base v l)
    {A : Option Addr} {m c : Nat} {k : List UInt8} (hx : a.eval x = .slice A m c) (hb : Bytes w w.heap.size A m k) (hlen : l.length + m ≤ 140737488355328) (hbase : base ≤ w.heap.size)
    (h : ∀ v' w', OwnB w' base v' (l ++ k) → w.grownBy w' v.ownBlock → NewOb w v.ownBlock v'.ownBlock → K (a.put o.dst v') w') : o.wp Try.prog a w K Q := by
  obtain ⟨v', w', hr, h2, h3, h4⟩ := app_run_at o.type hown c hb hlen hbase
  unfold Oper.wp execOp
  simp only [ho, resolve, invoke, builtin, Sem.run_bind, Sem.run_pure, Result.andThen_ok, List.map_toArray, List.map_cons, List.map_nil, hs, hx, hr]
  exact h v' w' h2 h3 h4
theorem wp_zerosAt (s x : Operand) (ho : o.op = .call { callee := .builtin .append, args := #[s, x], argTypes := #[32, 3] }) (hs : a.eval s = v) (hown : OwnB w base v l)
    (n : Nat) (hx : a.eval x = .int .i64 n) (hlen : l.length + n ≤ 140737488355328) (hbase : base ≤ w.heap.size)
    (h : ∀ v' w', OwnB w' base v' (l ++ List.replicate n 0) → w.grownBy w' v.ownBlock → NewOb w v.ownBlock v'.ownBlock → K (a.put o.dst v') w') : o.wp Try.prog a w K Q := by
  obtain ⟨v', w', hr, h2, h3, h4⟩ := app_zero_run o.type hown n hlen hbase
  unfold Oper.wp execOp
  simp only [ho, resolve, invoke, builtin, Sem.run_bind, Sem.run_pure, Result.andThen_ok, List.map_toArray, List.map_cons, List.map_nil, hs, hx, hr]
  exact h v' w' h2 h3 h4
theorem wpList_appAt {ops : Array Oper} {rest : List Oper} (hgd : o.guard = none) (s x : Operand) (ho : o.op = .call { callee := .builtin .append, args := #[s, x], argTypes := #[32, 32] }) (hs : a.eval s = v) (hown : OwnB w base v l)
    {A : Option Addr} {m c : Nat} {k : List UInt8} (hx : a.eval x = .slice A m c) (hb : Bytes w w.heap.size A m k) (hlen : l.length + m ≤ 140737488355328) (hbase : base ≤ w.heap.size)
    (h : ∀ v' w', OwnB w' base v' (l ++ k) → w.grownBy w' v.ownBlock → NewOb w v.ownBlock v'.ownBlock → wpList Try.prog ops Q rest (a.put o.dst v') w') : wpList Try.prog ops Q (o :: rest) a w :=
  wpList_plain hgd fun _ hK => wp_appAt s x ho hs hown hx hb hlen hbase fun v' w' h2 h3 h4 => hK _ _ (h v' w' h2 h3 h4)
theorem step_appAt {ops : Array Oper} {E : Prop} (hgd : o.guard = none) (s x : Operand) (ho : o.op = .call { callee := .builtin .append, args := #[s, x], argTypes := #[32, 32] }) (hs : a.eval s = v) (hown : OwnB w base v l)
    {A : Option Addr} {m c : Nat} {k : List UInt8} (hx : a.eval x = .slice A m c) (hb : Bytes w w.heap.size A m k) (hlen : l.length + m ≤ 140737488355328) (hbase : base ≤ w.heap.size)
    (h : ∀ v' w', OwnB w' base v' (l ++ k) → w.grownBy w' v.ownBlock → NewOb w v.ownBlock v'.ownBlock → K (a.put o.dst v') w') :
    if Region.wanted o (yielded ops a.tmps) = true then Oper.wp Try.prog o a w K Q else E := by
  have hw : Region.wanted o (yielded ops a.tmps) = true := by simp [Region.wanted, hgd]
  rw [if_pos hw]
  exact wp_appAt s x ho hs hown hx hb hlen hbase h
theorem step_zerosAt {ops : Array Oper} {E : Prop} (hgd : o.guard = none) (s x : Operand) (ho : o.op = .call { callee := .builtin .append, args := #[s, x], argTypes := #[32, 3] }) (hs : a.eval s = v) (hown : OwnB w base v l)
    (n : Nat) (hx : a.eval x = .int .i64 n) (hlen : l.length + n ≤ 140737488355328) (hbase : base ≤ w.heap.size)
    (h : ∀ v' w', OwnB w' base v' (l ++ List.replicate n 0) → w.grownBy w' v.ownBlock → NewOb w v.ownBlock v'.ownBlock → K (a.put o.dst v') w') :
    if Region.wanted o (yielded ops a.tmps) = true then Oper.wp Try.prog o a w K Q else E := by
  have hw : Region.wanted o (yielded ops a.tmps) = true := by simp [Region.wanted, hgd]
  rw [if_pos hw]
  exact wp_zerosAt s x ho hs hown n hx hlen hbase h
end
theorem Whole.at {w : World} {g : Nat} {t : TypeId} {cs : Array Value} (h : Whole w g t cs) (i : Nat) {u : Value} (hu : cs[i]? = some u) : w.cell? ⟨g, i, none⟩ = some u := (h.cell i).trans hu
theorem Whole.ownGrown {w w' : World} {g : Nat} {t : TypeId} {cs : Array Value} {ob : Option Nat} (h : Whole w g t cs) (hG : w.grownBy w' ob) (ho : ob ≠ some g) : Whole w' g t cs := (hG.block g h.lt (fun e => ho e.symm)).trans h
/-- A value of one cell stored into a block that is known whole. -/
theorem wpList_storeC {ops : Array Oper} {rest : List Oper} {o : Oper} {a : Act} {w : World} {Q : Exit → Act → World → Prop} (hgd : o.guard = none) (ty : TypeId) (x y : Operand) (ho : o.op = .store ty x y)
    {g i : Nat} {t : TypeId} {cs : Array Value} (cs' : Array Value) {u : Value} (hx : a.eval x = .pointer (some ⟨g, i, none⟩)) (hy : a.eval y = u) (hw : Whole w g t cs) (hi : i < cs.size)
    (hs : (Try.prog.info? ty).map (·.size) = some 1) (h1 : u.oneCell' = true) (hcells : u.cells = #[u]) (hcs : cs.setIfInBounds i u = cs')
    (h : ∀ w', Whole w' g t cs' → w.grownBy w' (some g) → wpList Try.prog ops Q rest (a.put o.dst undef) w') : wpList Try.prog ops Q (o :: rest) a w := by
  subst hcs
  refine wpList_plain hgd fun _ hK => ?_
  have hst := run_storeCells_at Try.prog g i t [u] 0 cs w hw (by simp; omega) (fun x hx => by simp at hx; subst hx; exact h1)
  unfold Oper.wp execOp
  cases hq : Try.prog.info? ty with
  | none => simp [hq] at hs
  | some d =>
    have hs' : d.size = 1 := by simpa [hq] using hs
    have hr : (storeVar ty ⟨g, i, none⟩ u).run Try.prog w = .ok () (w.setRow g (cs.toList.take (i + 0) ++ [u] ++ cs.toList.drop (i + 0 + [u].length)).toArray) := by
      simp only [storeVar, sizeOf, typeInfo, hcells]
      simpa [hq, hs'] using hst
    simp only [ho, hx, hy, Instr.storeAt, Instr.sureAddr, Sem.run_bind, Sem.run_pure, Result.andThen_ok, hr]
    refine hK _ _ (h _ ?_ ⟨rfl, rfl, rfl, by simp, fun k _ hk => setRow_other w g k _ (fun e => hk (by simp [e]))⟩)
    have e : (cs.toList.take (i + 0) ++ [u] ++ cs.toList.drop (i + 0 + [u].length)).toArray = cs.setIfInBounds i u := by
      apply Array.ext'
      rw [Array.toList_setIfInBounds, List.set_eq_take_append_cons_drop, if_pos (by simpa using hi)]
      simp
    rw [e]
    exact setRow_heap w g cs _ _ _ hw
/-- 'min' of two numbers, with its value named. -/
theorem wpList_min {ops : Array Oper} {rest : List Oper} {o : Oper} {a : Act} {w : World} {Q : Exit → Act → World → Prop} (hgd : o.guard = none) (x y : Operand) {ts : Array TypeId} (ho : o.op = .call { callee := .builtin .min, args := #[x, y], argTypes := ts })
    {p q r : Int} {k : IntKind} (hx : a.eval x = .int k p) (hy : a.eval y = .int k q) (hr : (if q < p then q else p) = r) (h : wpList Try.prog ops Q rest (a.put o.dst (.int k r)) w) : wpList Try.prog ops Q (o :: rest) a w := by
  subst hr
  refine wpList_plain hgd fun _ hK => ?_
  unfold Oper.wp execOp
  simp only [ho, resolve, invoke, builtin, Sem.run_bind, Sem.run_pure, Result.andThen_ok, List.map_toArray, List.map_cons, List.map_nil, hx, hy, run_min_int2]
  exact hK _ _ h
/-- The world is as it was, but for what was drawn. -/
def Qt (w w' : World) : Prop := ∃ m, w' = w.drewN m
theorem Qt.refl (w : World) : Qt w w := ⟨0, rfl⟩
theorem Qt.drewN {a b : World} (h : Qt a b) (n : Nat) : Qt a (b.drewN n) := by
  obtain ⟨m, rfl⟩ := h
  exact ⟨m + n, World.drewN_drewN a m n⟩
theorem Qt.ext {a b : World} (h : Qt a b) : Ext a b := by
  obtain ⟨m, rfl⟩ := h
  exact (Ext.refl a).drewN m
theorem Qt.trans {a b c : World} (h : Qt a b) (k : Qt b c) : Qt a c := by
  obtain ⟨m, rfl⟩ := k
  exact h.drewN m
/-- 'b[l:h]'. -/
theorem run_mid (W : World) (a : Option Addr) (n c : Nat) (k k' : IntKind) (l h : Int) (h0 : 0 ≤ l) (h1 : l ≤ h) (h2 : h ≤ c) :
    (Instr.slice 32 (.slice a n c) (some (.int k l)) (some (.int k' h)) none).run Try.prog W = .ok (.slice (cutAt a c l.toNat) (h.toNat - l.toNat) (c - l.toNat)) W := by
  rw [run_slice_lh (P := Try.prog) (w := W) 32 a n c (by kernel_rfl) k k' l h h0 h1 h2]
  have hs : (sizeOf (Try.prog.elem 32)).run Try.prog W = .ok 1 W := by kernel_rfl
  rw [hs]
  simp [Result.andThen, sliced, cutAt]
end Go.Proofs.Ytkgkppblkdihkaa

namespace Go.Proofs.Ytkgkppblkdihkaa
open Go.RowKit

/-- A text of these bytes. -/
def txt (l : List UInt8) : Value := .string ⟨l.toArray⟩
theorem txt_of (b : ByteArray) : ∃ l : List UInt8, b = ⟨l.toArray⟩ := ⟨b.data.toList, by cases b; simp⟩
theorem txt_size (l : List UInt8) : (ByteArray.mk l.toArray).size = l.length := by simp [ByteArray.size]
theorem run_txtAt (W : World) (l : List UInt8) (k : IntKind) (i : Int) (h0 : 0 ≤ i) (h1 : i < l.length) : (Instr.index 9 (.string ⟨l.toArray⟩) (.int k i)).run Try.prog W = .ok (.int .u8 ((l.getD i.toNat 0).toNat : Int)) W := by
  rw [run_index_string (P := Try.prog) W 9 _ k i Try.underlying9, dif_pos ⟨h0, by rw [txt_size]; exact h1⟩]
  have h : i.toNat < l.length := by omega
  simp [List.getD_eq_getElem?_getD, h]
  rfl
theorem run_txtLen (W : World) (l : List UInt8) (ty : TypeId) : (Builtin.len_ #[9] ty #[.string ⟨l.toArray⟩]).run Try.prog W = .ok (.int .i64 (l.length : Int)) W := by
  rw [run_len_string (P := Try.prog) W 9 ty _ Try.underlying9, txt_size]
  rfl
theorem run_txtCut (W : World) (l : List UInt8) (k : IntKind) (i : Int) (h0 : 0 ≤ i) (h1 : i ≤ l.length) : (Instr.slice 9 (.string ⟨l.toArray⟩) (some (.int k i)) none none).run Try.prog W = .ok (.string ⟨(l.drop i.toNat).toArray⟩) W := by
  rw [run_slice_string_l (P := Try.prog) W 9 _ Try.underlying9 k i h0 (by rw [txt_size]; exact h1)]
  congr 2
  apply ByteArray.ext
  rw [ByteArray.data_extract, txt_size]
  show l.toArray.extract i.toNat l.length = (l.drop i.toNat).toArray
  rw [List.extract_toArray, List.extract_eq_take_drop, List.take_of_length_le (by simp)]
/-- A slice that reads as these texts. -/
def TextsAt (w : World) (B : Nat) (A : Option Addr) (n : Nat) (L : List (List UInt8)) : Prop :=
  L.length = n ∧ (n = 0 ∨ ∃ b off, A = some ⟨b, off, none⟩ ∧ b < B ∧ ∀ i, i < n → w.cell? ⟨b, off + i, none⟩ = some (.string ⟨(L.getD i []).toArray⟩))
theorem TextsAt.below {w w' : World} {B C : Nat} {A : Option Addr} {n : Nat} {L : List (List UInt8)} (h : TextsAt w B A n L) (hb : Below C w w') (hC : B ≤ C) : TextsAt w' B A n L := by
  refine ⟨h.1, ?_⟩
  rcases h.2 with h0 | ⟨b, off, hA, hB, hc⟩
  · exact .inl h0
  · exact .inr ⟨b, off, hA, hB, fun i hi => by rw [hb.cell (p := ⟨b, off + i, none⟩) (Nat.lt_of_lt_of_le hB hC)]; exact hc i hi⟩
theorem TextsAt.later {w w' : World} {A : Option Addr} {n : Nat} {L : List (List UInt8)} (h : TextsAt w w.heap.size A n L) (hE : Ext w w') : TextsAt w' w'.heap.size A n L := by
  refine ⟨h.1, ?_⟩
  rcases h.2 with h0 | ⟨b, off, hA, hB, hc⟩
  · exact .inl h0
  · exact .inr ⟨b, off, hA, Nat.lt_of_lt_of_le hB hE.le, fun i hi => by rw [hE.cell hB]; exact hc i hi⟩
theorem TextsAt.cut {w : World} {B n : Nat} {A : Option Addr} {r : List (List UInt8)} (h : TextsAt w B A n r) {k c : Nat} (hk : k ≤ n) (hc : n ≤ c) : TextsAt w B (cutAt A c k) (n - k) (r.drop k) := by
  refine ⟨by rw [List.length_drop, h.1], ?_⟩
  by_cases hkn : k = n
  · exact .inl (by omega)
  rcases h.2 with h0 | ⟨b, off, rfl, hB, hcell⟩
  · exact .inl (by omega)
  · refine .inr ⟨b, off + k, ?_, hB, fun i hi => ?_⟩
    · simp [cutAt, show ¬ c = k by omega, Addr.add]
    · rw [Nat.add_assoc, hcell (k + i) (by omega)]
      simp [List.getD_eq_getElem?_getD]
theorem TextsAt.top {w : World} {B n : Nat} {A : Option Addr} {r : List (List UInt8)} (h : TextsAt w B A n r) {k : Nat} (hk : k ≤ n) : TextsAt w B A k (r.take k) := by
  refine ⟨by rw [List.length_take, h.1]; omega, ?_⟩
  rcases h.2 with h0 | ⟨b, off, hA, hB, hc⟩
  · exact .inl (by omega)
  · refine .inr ⟨b, off, hA, hB, fun i hi => ?_⟩
    rw [hc i (by omega)]
    simp [List.getD_eq_getElem?_getD, hi]
theorem textsNew (w : World) (L : List (List UInt8)) (cs : Array Value) (t : TypeId) (fr : Nat × Nat) (h : cs = (L.map txt).toArray) (n : Nat) (hn : L.length = n) :
    TextsAt (w.alloc (.cells cs t fr)) (w.alloc (.cells cs t fr)).heap.size (some ⟨w.heap.size, 0, none⟩) n L := by
  subst h
  subst hn
  refine ⟨rfl, .inr ⟨w.heap.size, 0, rfl, by simp, fun i hi => ?_⟩⟩
  rw [Nat.zero_add, World.cell?_alloc_mark]
  simp [hi, txt]
/-- v is nil, or lies in a block of the call's own, and reads as these texts. -/
def OwnTx (w : World) (base : Nat) (v : Value) (L : List (List UInt8)) : Prop := w.ownsRow base 9 1 v L.length (L.map txt)
theorem text_info : (Try.prog.info? 9).map (fun i => (i.zero, i.size, i.bytes)) = some (some (.string ⟨#[]⟩), 1, 16) := by kernel_rfl
theorem OwnTx.nil (w : World) (base : Nat) : OwnTx w base (.slice none 0 0) [] := World.ownsRow_nil w base _ _
theorem OwnTx.ext {w w' : World} {base : Nat} {v : Value} {L : List (List UInt8)} (h : OwnTx w base v L) (hE : Ext w w') : OwnTx w' base v L :=
  World.ownsRow.kept h (hE.grown none) (by cases hv : v.ownBlock <;> simp)
theorem OwnTx.lt {w : World} {base : Nat} {v : Value} {L : List (List UInt8)} (h : OwnTx w base v L) : ∀ k, v.ownBlock = some k → base ≤ k ∧ k < w.heap.size := World.ownsRow.lt h
theorem OwnTx.form {w : World} {base : Nat} {v : Value} {L : List (List UInt8)} (h : OwnTx w base v L) : ∃ A c, v = .slice A L.length c ∧ L.length ≤ c ∧ c ≤ maxLen ∧ TextsAt w w.heap.size A L.length L := by
  have hl := h.lt
  rcases h.2 with ⟨rfl, h0⟩ | ⟨g, cap, cur, rfl, hb, hg, hn, hc, hs, ht⟩
  · exact ⟨none, 0, by rw [h0], by omega, by unfold maxLen; omega, rfl, .inl h0⟩
  · refine ⟨_, cap, rfl, hn, hc, rfl, .inr ⟨g, 0, rfl, (hl g rfl).2, fun i hi => ?_⟩⟩
    have hk := World.ownsRow.cellAt h i (by omega)
    rw [Nat.zero_add, hk]
    simp [hi, txt]
/-- A list of texts is told. -/
def MadeTx (w : World) (l : List (List UInt8)) (e : Ending) (w' : World) : Prop := ∃ A c, e = .returned (.slice A l.length c) ∧ l.length ≤ c ∧ c ≤ maxLen ∧ TextsAt w' w'.heap.size A l.length l ∧ Ext w w'
end Go.Proofs.Ytkgkppblkdihkaa

namespace Go.Proofs.Ytkgkppblkdihkaa
open Go.RowKit

namespace Num
/-- A number's bytes; f: how many there may be. -/
def encF : Nat → Nat → List UInt8
  | 0, _ => []
  | f + 1, x => if x < 128 then [UInt8.ofNat x] else UInt8.ofNat (128 + x % 128) :: encF f (x / 128)
def enc (x : Nat) : List UInt8 := encF 10 x
theorem encF_small {f x : Nat} (h : x < 128) : encF (f + 1) x = [UInt8.ofNat x] := by rw [encF, if_pos h]
theorem encF_big {f x : Nat} (h : ¬ x < 128) : encF (f + 1) x = UInt8.ofNat (128 + x % 128) :: encF f (x / 128) := by rw [encF, if_neg h]
theorem encF_len : ∀ (f x : Nat), (encF f x).length ≤ f
  | 0, _ => by simp [encF]
  | f + 1, x => by
    rw [encF]
    split
    · simp
    · have := encF_len f (x / 128)
      simp; omega
theorem enc_len (x : Nat) : (enc x).length ≤ 10 := encF_len 10 x
theorem enc_pos (x : Nat) : 0 < (enc x).length := by
  unfold enc
  rw [encF]
  split <;> simp

/-- What stands in the bytes from a place on: the number, the place behind it, an error. i: how many of its bytes are taken, x: what they make. -/
def scanF (b : List UInt8) (q : Nat) : Nat → Nat → Nat → Nat × Nat × Int
  | 0, _, _ => (0, q, 2)
  | f + 1, i, x =>
    if b.length ≤ q + i then (0, q, 1)
    else if (i = 9 ∧ (b.getD (q + i) 0).toNat ≠ 1) ∨ (0 < i ∧ (b.getD (q + i) 0).toNat = 0) then (0, q, 2)
    else if (b.getD (q + i) 0).toNat < 128 then (x + (b.getD (q + i) 0).toNat % 128 * 128 ^ i, q + i + 1, 0)
    else scanF b q f (i + 1) (x + (b.getD (q + i) 0).toNat % 128 * 128 ^ i)
def scan (b : List UInt8) (q : Nat) : Nat × Nat × Int := scanF b q 10 0 0
/-- What the first i bytes make stays below 128 ^ i. -/
theorem part_lt {x c i : Nat} (h : x < 128 ^ i) : x + c % 128 * 128 ^ i < 128 ^ (i + 1) := by
  have h1 : c % 128 < 128 := Nat.mod_lt _ (by decide)
  have h2 : (c % 128 + 1) * 128 ^ i ≤ 128 * 128 ^ i := Nat.mul_le_mul_right _ h1
  rw [Nat.add_mul, Nat.one_mul] at h2
  rw [Nat.pow_succ, Nat.mul_comm (128 ^ i)]
  omega
/-- The place does not go beyond the bytes; with an error it stands. -/
theorem scanF_facts (b : List UInt8) (q : Nat) : ∀ f i x, x < 128 ^ i → i + f = 10 → (scanF b q f i x).1 < 2 ^ 64 ∧ ((scanF b q f i x).2.2 = 0 → q < (scanF b q f i x).2.1 ∧ (scanF b q f i x).2.1 ≤ b.length) ∧ ((scanF b q f i x).2.2 ≠ 0 → (scanF b q f i x).2.1 = q ∧ (scanF b q f i x).1 = 0) ∧ ((scanF b q f i x).2.2 = 0 ∨ (scanF b q f i x).2.2 = 1 ∨ (scanF b q f i x).2.2 = 2)
  | 0, i, x, _, _ => by simp [scanF]
  | f + 1, i, x, hx, hf => by
    rw [scanF]
    by_cases h1 : b.length ≤ q + i
    · rw [if_pos h1]; simp
    · rw [if_neg h1]
      by_cases h2 : (i = 9 ∧ (b.getD (q + i) 0).toNat ≠ 1) ∨ (0 < i ∧ (b.getD (q + i) 0).toNat = 0)
      · rw [if_pos h2]; simp
      · rw [if_neg h2]
        by_cases h3 : (b.getD (q + i) 0).toNat < 128
        · rw [if_pos h3]
          refine ⟨?_, fun _ => ⟨by simp; omega, by simp; omega⟩, fun h => absurd rfl h, .inl rfl⟩
          show x + (b.getD (q + i) 0).toNat % 128 * 128 ^ i < 2 ^ 64
          by_cases h9 : i = 9
          · subst h9
            have hc : (b.getD (q + 9) 0).toNat = 1 := by
              rcases Nat.lt_trichotomy (b.getD (q + 9) 0).toNat 1 with h | h | h
              · exact absurd (.inr ⟨by omega, by omega⟩) h2
              · exact h
              · exact absurd (.inl ⟨rfl, by omega⟩) h2
            rw [hc]
            have : (128 : Nat) ^ 9 = 2 ^ 63 := by decide
            omega
          · have h4 := part_lt (c := (b.getD (q + i) 0).toNat) hx
            have h5 : (128 : Nat) ^ (i + 1) ≤ 128 ^ 9 := Nat.pow_le_pow_right (by decide) (by omega)
            have : (128 : Nat) ^ 9 = 2 ^ 63 := by decide
            omega
        · rw [if_neg h3]
          exact scanF_facts b q f (i + 1) _ (part_lt hx) (by omega)
theorem scan_facts (b : List UInt8) (q : Nat) : (scan b q).1 < 2 ^ 64 ∧ ((scan b q).2.2 = 0 → q < (scan b q).2.1 ∧ (scan b q).2.1 ≤ b.length) ∧ ((scan b q).2.2 ≠ 0 → (scan b q).2.1 = q ∧ (scan b q).1 = 0) ∧ ((scan b q).2.2 = 0 ∨ (scan b q).2.2 = 1 ∨ (scan b q).2.2 = 2) :=
  scanF_facts b q 10 0 0 (by decide) rfl

theorem ofNat_low (y : Nat) (h : y < 256) : (UInt8.ofNat y).toNat = y := by rw [UInt8.toNat_ofNat']; exact Nat.mod_eq_of_lt h
/-- What is written is read. -/
theorem scanF_enc (pre post : List UInt8) : ∀ (f i x y : Nat), i + f = 10 → y < 2 ^ 64 / 128 ^ i → (0 < i → 0 < y) → ∀ (done : List UInt8), done.length = i →
    scanF (pre ++ done ++ encF f y ++ post) pre.length f i x = (x + y * 128 ^ i, pre.length + i + (encF f y).length, 0)
  | 0, i, x, y, hf, hy, hp, done, hd => by
    obtain rfl : i = 10 := by omega
    have : y = 0 := by
      have : (2 : Nat) ^ 64 / 128 ^ 10 = 0 := by decide
      omega
    exact absurd (hp (by omega)) (by omega)
  | f + 1, i, x, y, hf, hy, hp, done, hd => by
    have hlen : pre.length + i = (pre ++ done).length := by rw [List.length_append, hd]
    rw [scanF]
    by_cases hs : y < 128
    · rw [encF_small hs]
      have hg : (pre ++ done ++ [UInt8.ofNat y] ++ post).getD (pre.length + i) 0 = UInt8.ofNat y := by
        rw [List.getD_eq_getElem?_getD, hlen, List.append_assoc _ [UInt8.ofNat y], List.getElem?_append_right (Nat.le_refl _), Nat.sub_self]; rfl
      rw [if_neg (by simp; omega), hg, ofNat_low y (by omega), if_neg, if_pos hs]
      · simp [Nat.mod_eq_of_lt hs]
      · rintro (⟨h9, h1⟩ | ⟨h0, h1⟩)
        · subst h9
          have : (2 : Nat) ^ 64 / 128 ^ 9 = 2 := by decide
          have := hp (by omega)
          omega
        · have := hp h0
          omega
    · have h9 : i ≠ 9 := by
        rintro rfl
        have : (2 : Nat) ^ 64 / 128 ^ 9 = 2 := by decide
        omega
      rw [encF_big hs]
      have hg : (pre ++ done ++ (UInt8.ofNat (128 + y % 128) :: encF f (y / 128)) ++ post).getD (pre.length + i) 0 = UInt8.ofNat (128 + y % 128) := by
        rw [List.getD_eq_getElem?_getD, hlen, List.append_assoc _ (UInt8.ofNat (128 + y % 128) :: encF f (y / 128)), List.getElem?_append_right (Nat.le_refl _), Nat.sub_self]; rfl
      have hmod : (128 + y % 128) % 128 = y % 128 := by omega
      rw [if_neg (by simp; omega), hg, ofNat_low _ (by omega), if_neg, if_neg (by omega), hmod]
      · have ih := scanF_enc pre post f (i + 1) (x + y % 128 * 128 ^ i) (y / 128) (by omega) (by
          rw [show (128 : Nat) ^ (i + 1) = 128 ^ i * 128 from rfl, ← Nat.div_div_eq_div_mul]
          have h0 : (2 ^ 64 / 128 ^ i) % 128 = 0 := by
            rcases (by omega : i = 0 ∨ i = 1 ∨ i = 2 ∨ i = 3 ∨ i = 4 ∨ i = 5 ∨ i = 6 ∨ i = 7 ∨ i = 8) with rfl | rfl | rfl | rfl | rfl | rfl | rfl | rfl | rfl <;> decide
          generalize 2 ^ 64 / 128 ^ i = N at *
          omega) (fun _ => by omega) (done ++ [UInt8.ofNat (128 + y % 128)]) (by simp [hd])
        have e : pre ++ (done ++ [UInt8.ofNat (128 + y % 128)]) ++ encF f (y / 128) ++ post = pre ++ done ++ (UInt8.ofNat (128 + y % 128) :: encF f (y / 128)) ++ post := by simp
        rw [e] at ih
        rw [ih]
        have hy2 : y % 128 + y / 128 * 128 = y := by omega
        have : x + y % 128 * 128 ^ i + y / 128 * 128 ^ (i + 1) = x + y * 128 ^ i := by
          rw [Nat.pow_succ, Nat.mul_comm (128 ^ i) 128, ← Nat.mul_assoc, Nat.add_assoc, ← Nat.add_mul, hy2]
        rw [this]
        simp
        omega
      · rintro (⟨h, _⟩ | ⟨_, h⟩)
        · exact h9 h
        · omega
theorem scan_enc (pre post : List UInt8) (x : Nat) (h : x < 2 ^ 64) : scan (pre ++ enc x ++ post) pre.length = (x, pre.length + (enc x).length, 0) := by
  have := scanF_enc pre post 10 0 0 x rfl (by simpa using h) (fun h => by omega) [] rfl
  simpa [enc, scan] using this
/-- What is read is just what is written. -/
theorem scanF_one (b : List UInt8) (q : Nat) : ∀ (f i x v p : Nat), scanF b q f i x = (v, p, 0) →
    ∃ y, v = x + y * 128 ^ i ∧ (b.drop (q + i)).take (p - (q + i)) = encF f y ∧ (0 < i → 0 < y) ∧ q + i < p ∧ p ≤ b.length
  | 0, i, x, v, p, h => by
    rw [scanF] at h
    simp only [Prod.mk.injEq] at h
    omega
  | f + 1, i, x, v, p, h => by
    rw [scanF] at h
    by_cases h1 : b.length ≤ q + i
    · rw [if_pos h1] at h
      simp only [Prod.mk.injEq] at h
      omega
    rw [if_neg h1] at h
    by_cases h2 : (i = 9 ∧ (b.getD (q + i) 0).toNat ≠ 1) ∨ (0 < i ∧ (b.getD (q + i) 0).toNat = 0)
    · rw [if_pos h2] at h
      simp only [Prod.mk.injEq] at h
      omega
    rw [if_neg h2] at h
    have hlt : q + i < b.length := by omega
    have hget : b.getD (q + i) 0 = b[q + i] := by rw [List.getD_eq_getElem?_getD, List.getElem?_eq_getElem hlt]; rfl
    rw [hget] at h h2
    have hdrop : b.drop (q + i) = b[q + i] :: b.drop (q + i + 1) := List.drop_eq_getElem_cons hlt
    have hof : UInt8.ofNat (b[q + i].toNat) = b[q + i] := UInt8.ofNat_toNat
    have hc := (b[q + i]).toNat_lt
    by_cases h3 : (b[q + i]).toNat < 128
    · rw [if_pos h3] at h
      simp only [Prod.mk.injEq] at h
      obtain ⟨hv, hp, _⟩ := h
      refine ⟨b[q + i].toNat, by rw [← hv, Nat.mod_eq_of_lt h3], ?_, fun h0 => ?_, by omega, by omega⟩
      · rw [hdrop, ← hp, show q + i + 1 - (q + i) = 1 by omega, encF_small h3, hof]
        rfl
      · rcases Nat.eq_zero_or_pos b[q + i].toNat with h | h
        · exact absurd (.inr ⟨h0, h⟩) h2
        · exact h
    · rw [if_neg h3] at h
      obtain ⟨y, hv, htake, hy, hqp, hpl⟩ := scanF_one b q f (i + 1) _ v p h
      have hy0 := hy (by omega)
      refine ⟨b[q + i].toNat % 128 + 128 * y, ?_, ?_, fun _ => by omega, by omega, hpl⟩
      · rw [hv, Nat.pow_succ, Nat.add_mul, Nat.mul_comm (128 ^ i) 128, ← Nat.mul_assoc, Nat.mul_comm 128 y, Nat.add_assoc]
      · have e1 : (b[q + i].toNat % 128 + 128 * y) % 128 = b[q + i].toNat % 128 := by omega
        have e2 : (b[q + i].toNat % 128 + 128 * y) / 128 = y := by omega
        have e3 : 128 + b[q + i].toNat % 128 = b[q + i].toNat := by omega
        rw [encF_big (by omega), e1, e2, e3, hof, hdrop, show p - (q + i) = (p - (q + (i + 1))) + 1 by omega, List.take_succ_cons]
        congr 1
theorem scan_one {b : List UInt8} {x : Nat} (h : scan b 0 = (x, b.length, 0)) : enc x = b := by
  obtain ⟨y, hv, ht, _⟩ := scanF_one b 0 10 0 0 x b.length h
  simp only [Nat.pow_zero, Nat.mul_one, Nat.zero_add] at hv ht
  rw [List.drop_zero, Nat.sub_zero, List.take_length] at ht
  rw [hv]
  exact ht.symm

/-! ### Fixed numbers -/
/-- The n lowest bytes of x, the lowest first. -/
def fix : Nat → Nat → List UInt8
  | 0, _ => []
  | n + 1, x => UInt8.ofNat (x % 256) :: fix n (x / 256)
theorem fix_len : ∀ n x, (fix n x).length = n
  | 0, _ => rfl
  | n + 1, x => by rw [fix, List.length_cons, fix_len]
/-- The number that bytes make, the lowest first. -/
def low : List UInt8 → Nat
  | [] => 0
  | c :: l => c.toNat + 256 * low l
theorem low_fix : ∀ n x, x < 256 ^ n → low (fix n x) = x
  | 0, x, h => by simp at h; simp [fix, low, h]
  | n + 1, x, h => by
    rw [fix, low, low_fix n (x / 256) (by rw [Nat.pow_succ] at h; omega), ofNat_low _ (by omega)]
    omega
theorem low_lt : ∀ l : List UInt8, low l < 256 ^ l.length
  | [] => by simp [low]
  | c :: l => by
    have h := low_lt l
    have hc := c.toNat_lt
    have : (low l + 1) * 256 ≤ 256 ^ l.length * 256 := Nat.mul_le_mul_right _ h
    rw [low, List.length_cons, Nat.pow_succ]
    omega
theorem low_drop (l : List UInt8) (k : Nat) (h : k < l.length) : low (l.drop k) = (l.getD k 0).toNat + 256 * low (l.drop (k + 1)) := by
  rw [List.drop_eq_getElem_cons h, low, List.getD_eq_getElem?_getD, List.getElem?_eq_getElem h]
  rfl
theorem fix_snoc : ∀ n x, fix (n + 1) x = fix n x ++ [UInt8.ofNat (x / 256 ^ n % 256)]
  | 0, x => by simp [fix]
  | n + 1, x => by
    rw [fix, fix_snoc n (x / 256), Nat.div_div_eq_div_mul, Nat.mul_comm 256, ← Nat.pow_succ]
    rfl

/-! ### Signed numbers -/
def zig (d : Nat) : Nat := if 2 ^ 63 ≤ d then 2 * (2 ^ 64 - 1 - d) + 1 else 2 * d
def zag (z : Nat) : Nat := if z % 2 = 1 then 2 ^ 64 - 1 - z / 2 else z / 2
theorem zag_zig {d : Nat} (h : d < 2 ^ 64) : zag (zig d) = d := by
  unfold zag zig
  split <;> split <;> omega
theorem zig_zag {z : Nat} (h : z < 2 ^ 64) : zig (zag z) = z := by
  unfold zag zig
  split <;> split <;> omega
theorem zig_lt {d : Nat} (h : d < 2 ^ 64) : zig d < 2 ^ 64 := by
  unfold zig
  split <;> omega
theorem zag_lt {z : Nat} (h : z < 2 ^ 64) : zag z < 2 ^ 64 := by
  unfold zag
  split <;> omega

/-! ### A cursor's calls: bytes, place, error; what they answer, the place and the error behind them -/
def numR (b : List UInt8) (q : Nat) (e : Int) : Nat × Nat × Int := if e = 0 then scan b q else (0, q, e)
def intR (b : List UInt8) (q : Nat) (e most : Int) : Nat × Nat × Int :=
  if (numR b q e).2.2 = 0 then (if most < ((numR b q e).1 : Int) then (0, q, 6) else numR b q e) else (0, (numR b q e).2.1, (numR b q e).2.2)
def takeR (b : List UInt8) (q : Nat) (e n : Int) : List UInt8 × Nat × Int :=
  if e = 0 then (if n < 0 then ([], q, 13) else if ((b.length - q : Nat) : Int) < n then ([], q, 1) else ((b.drop q).take n.toNat, q + n.toNat, 0)) else ([], q, e)
def byteR (b : List UInt8) (q : Nat) (e : Int) : Nat × Nat × Int := (((takeR b q e 1).1.getD 0 0).toNat, (takeR b q e 1).2)
def fixedR (b : List UInt8) (q : Nat) (e n : Int) : Nat × Nat × Int :=
  if e = 0 then (if n < 1 ∨ 8 < n then (0, q, 13) else (low (takeR b q e n).1, (takeR b q e n).2)) else (0, q, e)
def textR (b : List UInt8) (q : Nat) (e most : Int) : List UInt8 × Nat × Int :=
  if (intR b q e most).2.2 = 0 then (if b.length - (intR b q e most).2.1 < (intR b q e most).1 then ([], q, 1) else takeR b (intR b q e most).2.1 0 ((intR b q e most).1 : Int)) else ([], (intR b q e most).2)
def failR (e e' : Int) : Int := if e = 0 then e' else e
def endR (b : List UInt8) (q : Nat) (e : Int) : Int := if e = 0 ∧ 0 < b.length - q then 2 else e
end Num
end Go.Proofs.Ytkgkppblkdihkaa

namespace Go.Proofs.Ytkgkppblkdihkaa
/-- A record. -/
structure Rc where
  time : Nat
  lv : UInt8
  src : List UInt8
  text : List UInt8
deriving DecidableEq
instance : Inhabited Rc := ⟨⟨0, 0, [], []⟩⟩
namespace Rcs
open Num

def weightE (l : List Rc) : Nat := (l.map fun r => 16 + r.src.length + r.text.length).sum
def checkE (l : List Rc) : Int := if l.length ≤ 20000 ∧ (∀ r ∈ l, r.src.length ≤ 4000 ∧ r.text.length ≤ 4000) ∧ weightE l ≤ 1048576 then 0 else 6
def txtB (s : List UInt8) : List UInt8 := enc s.length ++ s
def oneB (whole : Bool) (r : Rc) : List UInt8 := (if whole = true then enc r.time ++ [r.lv] else []) ++ (txtB r.src ++ txtB r.text)
def bytesB (whole : Bool) (l : List Rc) : List UInt8 := l.flatMap (oneB whole)
/-- What is left of a record that isn't written whole. -/
def bare (whole : Bool) (r : Rc) : Rc := if whole = true then r else ⟨0, 0, r.src, r.text⟩

def timeR (whole : Bool) (b : List UInt8) (q : Nat) : Nat × Nat × Int := if whole = true then numR b q 0 else (0, q, 0)
def lvR (whole : Bool) (b : List UInt8) (q : Nat) : Nat × Nat × Int := if whole = true then byteR b (timeR whole b q).2.1 (timeR whole b q).2.2 else (0, q, 0)
def srcR (whole : Bool) (b : List UInt8) (q : Nat) : List UInt8 × Nat × Int := textR b (lvR whole b q).2.1 (lvR whole b q).2.2 4000
def txtR (whole : Bool) (b : List UInt8) (q : Nat) : List UInt8 × Nat × Int := textR b (srcR whole b q).2.1 (srcR whole b q).2.2 4000
/-- The record that stands from the place q on, the place behind it, an error. -/
def recR (whole : Bool) (b : List UInt8) (q : Nat) : Rc × Nat × Int := (⟨(timeR whole b q).1, UInt8.ofNat (lvR whole b q).1, (srcR whole b q).1, (txtR whole b q).1⟩, (txtR whole b q).2.1, (txtR whole b q).2.2)
def readF (whole : Bool) (b : List UInt8) : Nat → Nat → List Rc × Int
  | 0, _ => ([], 0)
  | f + 1, q => if b.length ≤ q then ([], 0) else if (recR whole b q).2.2 ≠ 0 then ([], (recR whole b q).2.2) else
      if (readF whole b f (recR whole b q).2.1).2 ≠ 0 then ([], (readF whole b f (recR whole b q).2.1).2) else ((recR whole b q).1 :: (readF whole b f (recR whole b q).2.1).1, 0)
def readE (whole : Bool) (b : List UInt8) : List Rc × Int := readF whole b b.length 0

/-- How many records more go into a group of so many bytes. -/
def moreG (whole : Bool) (size : Int) : Nat → List Rc → Nat
  | _, [] => 0
  | sum, r :: t => if ((sum + (oneB whole r).length : Nat) : Int) ≤ size then moreG whole size (sum + (oneB whole r).length) t + 1 else 0
def groupsF (whole : Bool) (size : Int) : Nat → List Rc → List Nat
  | 0, _ => []
  | _ + 1, [] => []
  | f + 1, r :: t => (moreG whole size (oneB whole r).length t + 1) :: groupsF whole size f (t.drop (moreG whole size (oneB whole r).length t))
def groupsE (size : Int) (whole : Bool) (l : List Rc) : List Nat := groupsF whole (if size < 1 then 1 else size) l.length l

def sub64 (a b : Nat) : Nat := (a + (2 ^ 64 - b)) % 2 ^ 64
def timesB : Nat → List Rc → List UInt8
  | _, [] => []
  | was, r :: t => enc (zig (sub64 r.time was)) ++ timesB r.time t
/-- How many records at the beginning have this level. -/
def rowN (x : UInt8) : List Rc → Nat
  | [] => 0
  | r :: t => if r.lv = x then rowN x t + 1 else 0
/-- Rows of levels; p: the level ahead. -/
def levelsB : Option UInt8 → List Rc → List UInt8
  | _, [] => []
  | p, r :: t => (if p = some r.lv then [] else r.lv :: enc (rowN r.lv t + 1)) ++ levelsB (some r.lv) t
def columnsE (l : List Rc) : List UInt8 := timesB 0 l ++ levelsB none l
def timesR (b : List UInt8) : Nat → Nat → Nat → List Nat × Nat × Int
  | 0, _, q => ([], q, 0)
  | n + 1, was, q => if (numR b q 0).2.2 ≠ 0 then ([], 0, (numR b q 0).2.2) else
      if (timesR b n ((was + zag (numR b q 0).1) % 2 ^ 64) (numR b q 0).2.1).2.2 ≠ 0 then ([], 0, (timesR b n ((was + zag (numR b q 0).1) % 2 ^ 64) (numR b q 0).2.1).2.2)
      else ((was + zag (numR b q 0).1) % 2 ^ 64 :: (timesR b n ((was + zag (numR b q 0).1) % 2 ^ 64) (numR b q 0).2.1).1, (timesR b n ((was + zag (numR b q 0).1) % 2 ^ 64) (numR b q 0).2.1).2.1, 0)
/-- How many records a row of levels has. -/
def runR (b : List UInt8) (q left : Nat) : Nat × Nat × Int := intR b (byteR b q 0).2.1 (byteR b q 0).2.2 (left : Int)
def levelsR (b : List UInt8) : Nat → Nat → Option UInt8 → Nat → List UInt8 × Nat × Int
  | 0, _, _, q => ([], q, 0)
  | f + 1, left, p, q => if left = 0 then ([], q, 0) else if (runR b q left).2.2 ≠ 0 then ([], 0, (runR b q left).2.2) else
      if (runR b q left).1 = 0 ∨ p = some (UInt8.ofNat (byteR b q 0).1) then ([], 0, 2) else
      if (levelsR b f (left - (runR b q left).1) (some (UInt8.ofNat (byteR b q 0).1)) (runR b q left).2.1).2.2 ≠ 0 then ([], 0, (levelsR b f (left - (runR b q left).1) (some (UInt8.ofNat (byteR b q 0).1)) (runR b q left).2.1).2.2)
      else (List.replicate (runR b q left).1 (UInt8.ofNat (byteR b q 0).1) ++ (levelsR b f (left - (runR b q left).1) (some (UInt8.ofNat (byteR b q 0).1)) (runR b q left).2.1).1, (levelsR b f (left - (runR b q left).1) (some (UInt8.ofNat (byteR b q 0).1)) (runR b q left).2.1).2.1, 0)
def readCR (n : Nat) (b : List UInt8) : List Nat × List UInt8 × Nat × Int :=
  if (timesR b n 0 0).2.2 ≠ 0 then ([], [], 0, (timesR b n 0 0).2.2) else
  if (levelsR b n n none (timesR b n 0 0).2.1).2.2 ≠ 0 then ([], [], 0, (levelsR b n n none (timesR b n 0 0).2.1).2.2)
  else ((timesR b n 0 0).1, (levelsR b n n none (timesR b n 0 0).2.1).1, (levelsR b n n none (timesR b n 0 0).2.1).2.1, 0)
def readCE (n : Int) (b : List UInt8) : List Nat × List UInt8 × Nat × Int := if n < 0 ∨ 20000 < n then ([], [], 0, 13) else readCR n.toNat b

theorem example17 : columnsE [⟨5, 1, [], []⟩, ⟨3, 1, [], []⟩] = [10, 3, 1, 2] := by decide +kernel
theorem num_at {b pre post : List UInt8} {x : Nat} (hb : b = pre ++ (enc x ++ post)) (hx : x < 2 ^ 64) : numR b pre.length 0 = (x, pre.length + (enc x).length, 0) := by
  have h := scan_enc pre post x hx
  rw [List.append_assoc, ← hb] at h
  unfold numR
  rw [if_pos rfl, h]
theorem int_at {b pre post : List UInt8} {x : Nat} {most : Int} (hb : b = pre ++ (enc x ++ post)) (hx : x < 2 ^ 64) (hm : (x : Int) ≤ most) : intR b pre.length 0 most = (x, pre.length + (enc x).length, 0) := by
  unfold intR
  rw [num_at hb hx]
  dsimp only
  rw [if_pos rfl, if_neg (by omega)]
theorem byte_at {b pre post : List UInt8} {c : UInt8} (hb : b = pre ++ (c :: post)) : byteR b pre.length 0 = (c.toNat, pre.length + 1, 0) := by
  have hl : b.length = pre.length + (post.length + 1) := by rw [hb]; simp
  unfold byteR takeR
  rw [if_pos rfl, if_neg (by omega), if_neg (by omega)]
  have : (b.drop pre.length).take (1 : Int).toNat = [c] := by rw [hb]; simp
  rw [this]
  rfl
theorem text_at {b pre post s : List UInt8} {most : Nat} (hb : b = pre ++ (txtB s ++ post)) (hs : s.length ≤ most) (hm : most ≤ 1000000) : textR b pre.length 0 (most : Int) = (s, pre.length + (txtB s).length, 0) := by
  have h1 : intR b pre.length 0 (most : Int) = (s.length, pre.length + (enc s.length).length, 0) := int_at (post := s ++ post) (by rw [hb, txtB, List.append_assoc]) (by omega) (by omega)
  have hl : b.length = pre.length + ((enc s.length).length + s.length) + post.length := by rw [hb, txtB]; simp; omega
  have hd : (b.drop (pre.length + (enc s.length).length)).take s.length = s := by
    rw [hb, txtB, ← List.append_assoc, ← List.append_assoc, List.append_assoc _ s post, List.drop_left' (by simp)]
    simp
  unfold textR
  rw [h1]
  dsimp only
  rw [if_pos rfl, if_neg (by omega)]
  unfold takeR
  rw [if_pos rfl, if_neg (by omega), if_neg (by omega), Int.toNat_natCast, hd, txtB, List.length_append]
  congr 2
  omega
/-- Of a record that was written. -/
theorem one_at {whole : Bool} {b pre post : List UInt8} {r : Rc} (hb : b = pre ++ (oneB whole r ++ post)) (ht : r.time < 2 ^ 64) (h1 : r.src.length ≤ 4000) (h2 : r.text.length ≤ 4000) : recR whole b pre.length = (bare whole r, pre.length + (oneB whole r).length, 0) := by
  cases whole with
  | false =>
    have hb1 : b = pre ++ (txtB r.src ++ (txtB r.text ++ post)) := by rw [hb]; simp [oneB]
    have e1 : srcR false b pre.length = (r.src, pre.length + (txtB r.src).length, 0) := text_at (most := 4000) hb1 h1 (by omega)
    have e2 : txtR false b pre.length = (r.text, pre.length + (txtB r.src).length + (txtB r.text).length, 0) := by
      unfold txtR
      rw [e1]
      dsimp only
      have := text_at (b := b) (pre := pre ++ txtB r.src) (post := post) (s := r.text) (most := 4000) (by rw [hb1]; simp) h2 (by omega)
      rw [List.length_append] at this
      exact this
    unfold recR
    rw [e1, e2]
    simp [timeR, lvR, bare, oneB]
    omega
  | true =>
    have hb1 : b = pre ++ (enc r.time ++ (r.lv :: (txtB r.src ++ (txtB r.text ++ post)))) := by rw [hb]; simp [oneB]
    have e1 : timeR true b pre.length = (r.time, pre.length + (enc r.time).length, 0) := num_at hb1 ht
    have e2 : lvR true b pre.length = (r.lv.toNat, pre.length + (enc r.time).length + 1, 0) := by
      unfold lvR
      rw [e1]
      dsimp only
      have := byte_at (b := b) (pre := pre ++ enc r.time) (c := r.lv) (post := txtB r.src ++ (txtB r.text ++ post)) (by rw [hb1]; simp)
      rw [List.length_append] at this
      rw [if_pos rfl]
      exact this
    have e3 : srcR true b pre.length = (r.src, pre.length + (enc r.time).length + 1 + (txtB r.src).length, 0) := by
      unfold srcR
      rw [e2]
      dsimp only
      have := text_at (b := b) (pre := pre ++ (enc r.time ++ [r.lv])) (post := txtB r.text ++ post) (s := r.src) (most := 4000) (by rw [hb1]; simp) h1 (by omega)
      simp only [List.length_append, List.length_singleton] at this
      rw [← Nat.add_assoc] at this
      exact this
    have e4 : txtR true b pre.length = (r.text, pre.length + (enc r.time).length + 1 + (txtB r.src).length + (txtB r.text).length, 0) := by
      unfold txtR
      rw [e3]
      dsimp only
      have := text_at (b := b) (pre := pre ++ (enc r.time ++ [r.lv] ++ txtB r.src)) (post := post) (s := r.text) (most := 4000) (by rw [hb1]; simp) h2 (by omega)
      simp only [List.length_append, List.length_singleton] at this
      rw [show pre.length + ((enc r.time).length + 1 + (txtB r.src).length) = pre.length + (enc r.time).length + 1 + (txtB r.src).length by omega] at this
      exact this
    unfold recR
    rw [e1, e2, e3, e4]
    simp [bare, oneB]
    omega
theorem one_pos (whole : Bool) (r : Rc) : 0 < (oneB whole r).length := by
  have := enc_pos r.src.length
  unfold oneB txtB
  simp only [List.length_append]
  omega
theorem bytes_len (whole : Bool) : ∀ l : List Rc, l.length ≤ (bytesB whole l).length
  | [] => by simp
  | r :: t => by
    have h1 := bytes_len whole t
    have h2 := one_pos whole r
    unfold bytesB at h1 ⊢
    rw [List.flatMap_cons, List.length_append, List.length_cons]
    omega
theorem read_from {whole : Bool} {b : List UInt8} : ∀ (f : Nat) (l : List Rc) (pre : List UInt8), l.length ≤ f → b = pre ++ bytesB whole l → (∀ r ∈ l, r.time < 2 ^ 64 ∧ r.src.length ≤ 4000 ∧ r.text.length ≤ 4000) → readF whole b f pre.length = (l.map (bare whole), 0)
  | 0, l, pre, hl, hb, h => by obtain rfl := List.eq_nil_of_length_eq_zero (by omega : l.length = 0); rfl
  | f + 1, [], pre, _, hb, _ => by
    rw [readF, if_pos (by rw [hb]; simp [bytesB])]
    rfl
  | f + 1, r :: t, pre, hl, hb, h => by
    have hr := h r (by simp)
    have hb1 : b = pre ++ (oneB whole r ++ bytesB whole t) := by rw [hb]; simp [bytesB]
    have h1 := one_at hb1 hr.1 hr.2.1 hr.2.2
    have hp := one_pos whole r
    have ih := read_from (whole := whole) (b := b) f t (pre ++ oneB whole r) (by simpa using hl) (by rw [hb1, List.append_assoc]) (fun x hx => h x (by simp [hx]))
    rw [List.length_append] at ih
    rw [readF, if_neg (by rw [hb1]; simp only [List.length_append]; omega), h1]
    dsimp only
    rw [if_neg (by simp), ih]
    simp
/-- What was written is read. -/
theorem read_back (whole : Bool) {l : List Rc} (h : ∀ r ∈ l, r.time < 2 ^ 64 ∧ r.src.length ≤ 4000 ∧ r.text.length ≤ 4000) : readE whole (bytesB whole l) = (l.map (bare whole), 0) := by
  have := read_from (whole := whole) (b := bytesB whole l) (bytesB whole l).length l [] (bytes_len whole l) (by simp) h
  simpa [readE] using this
end Rcs
end Go.Proofs.Ytkgkppblkdihkaa

namespace Go.Proofs.Ytkgkppblkdihkaa
open Go.ChangeShapes Go.WideShapes Go.ChangeAt Go.WideMaps Go.WideElems Go.RowKit

theorem addr_addRc (b off i : Nat) : (⟨b, off, none⟩ : Addr).add i = ⟨b, off + i, none⟩ := by unfold Addr.add; split <;> simp_all
/-- A record as a value. -/
def rcV (r : Rc) : Value := .agg #[.int .u64 (r.time : Int), .int .u8 (r.lv.toNat : Int), .string ⟨r.src.toArray⟩, .string ⟨r.text.toArray⟩]
def rcCells (r : Rc) : List Value := [.int .u64 (r.time : Int), .int .u8 (r.lv.toNat : Int), .string ⟨r.src.toArray⟩, .string ⟨r.text.toArray⟩]
/-- The record lies in block b from o on. -/
def RcAt (w : World) (b o : Nat) (r : Rc) : Prop :=
  w.cell? ⟨b, o, none⟩ = some (.int .u64 (r.time : Int)) ∧ w.cell? ⟨b, o + 1, none⟩ = some (.int .u8 (r.lv.toNat : Int)) ∧ w.cell? ⟨b, o + 2, none⟩ = some (.string ⟨r.src.toArray⟩) ∧ w.cell? ⟨b, o + 3, none⟩ = some (.string ⟨r.text.toArray⟩)
def Rc.ok (r : Rc) : Prop := r.time < 2 ^ 64 ∧ r.src.length ≤ maxLen ∧ r.text.length ≤ maxLen
def RcsAt (w : World) (B : Nat) (A : Option Addr) (n : Nat) (L : List Rc) : Prop :=
  L.length = n ∧ (n = 0 ∨ ∃ b off, A = some ⟨b, off, none⟩ ∧ b < B ∧ ∀ i, i < n → RcAt w b (off + i * 4) (L.getD i default)) ∧ ∀ r ∈ L, r.ok
theorem RcAt.below {w w' : World} {b o B : Nat} {r : Rc} (h : RcAt w b o r) (hb : Below B w w') (hB : b < B) : RcAt w' b o r :=
  ⟨(hb.cell (p := ⟨b, o, none⟩) hB).trans h.1, (hb.cell (p := ⟨b, o + 1, none⟩) hB).trans h.2.1, (hb.cell (p := ⟨b, o + 2, none⟩) hB).trans h.2.2.1, (hb.cell (p := ⟨b, o + 3, none⟩) hB).trans h.2.2.2⟩
theorem RcsAt.below {w w' : World} {B C n : Nat} {A : Option Addr} {L : List Rc} (h : RcsAt w B A n L) (hb : Below C w w') (hC : B ≤ C) : RcsAt w' B A n L := by
  refine ⟨h.1, ?_, h.2.2⟩
  rcases h.2.1 with h0 | ⟨b, off, hA, hB, hc⟩
  · exact .inl h0
  · exact .inr ⟨b, off, hA, hB, fun i hi => (hc i hi).below hb (by omega)⟩
theorem RcsAt.later {w w' : World} {A : Option Addr} {n : Nat} {L : List Rc} (h : RcsAt w w.heap.size A n L) (hE : Ext w w') : RcsAt w' w'.heap.size A n L := by
  have h2 := h.below hE (Nat.le_refl _)
  refine ⟨h2.1, ?_, h2.2.2⟩
  rcases h2.2.1 with h0 | ⟨b, off, hA, hB, hc⟩
  · exact .inl h0
  · exact .inr ⟨b, off, hA, Nat.lt_of_lt_of_le hB hE.le, hc⟩
theorem RcsAt.okAt {w : World} {B : Nat} {A : Option Addr} {n : Nat} {L : List Rc} (h : RcsAt w B A n L) {i : Nat} (hi : i < n) : (L.getD i default).ok := by
  refine h.2.2 _ ?_
  rw [List.getD_eq_getElem?_getD, List.getElem?_eq_getElem (by rw [h.1]; exact hi)]
  exact List.getElem_mem _
/-- A part of a slice of records. -/
theorem RcsAt.cut {w : World} {B n : Nat} {A : Option Addr} {r : List Rc} (h : RcsAt w B A n r) {k c : Nat} (hk : k ≤ n) (hc : n ≤ c) : RcsAt w B (if c = k then A else A.map (·.add (k * 4))) (n - k) (r.drop k) := by
  refine ⟨by rw [List.length_drop, h.1], ?_, fun x hx => h.2.2 x (List.mem_of_mem_drop hx)⟩
  by_cases hkn : k = n
  · exact .inl (by omega)
  rcases h.2.1 with h0 | ⟨b, off, rfl, hB, hcell⟩
  · exact .inl (by omega)
  · refine .inr ⟨b, off + k * 4, ?_, hB, fun i hi => ?_⟩
    · simp [show ¬ c = k by omega, Addr.add]
    · have := hcell (k + i) (by omega)
      rw [Nat.add_mul, ← Nat.add_assoc] at this
      simpa [List.getD_eq_getElem?_getD] using this
theorem RcsAt.top {w : World} {B n : Nat} {A : Option Addr} {r : List Rc} (h : RcsAt w B A n r) {k : Nat} (hk : k ≤ n) : RcsAt w B A k (r.take k) := by
  refine ⟨by rw [List.length_take, h.1]; omega, ?_, fun x hx => h.2.2 x (List.mem_of_mem_take hx)⟩
  rcases h.2.1 with h0 | ⟨b, off, hA, hB, hc⟩
  · exact .inl (by omega)
  · refine .inr ⟨b, off, hA, hB, fun i hi => ?_⟩
    have := hc i (by omega)
    have e : (r.take k).getD i default = r.getD i default := by simp [List.getD_eq_getElem?_getD, hi]
    rw [e]
    exact this

set_option maxRecDepth 1000000 in
theorem open_rcs {H : Type} {enc : TypeId × Value → H} {W : World} {a : Option Addr} {n c : Nat} {d : DataW H} {p : List MemPlace} (h : DataW.Trod enc Try.prog W 0 (fun _ => true) true 22 (.slice a n c) d p) :
    ∃ L : List Rc, n ≤ c ∧ c ≤ maxLen ∧ RcsAt W W.heap.size a n L := by
  obtain ⟨fuel, hf⟩ := h
  rcases Deep.open_slice Try.underlying22 hf with ⟨hcs, _⟩ | ⟨x, n', c', m, k, D, Pl, hcs, _, hl, hm, hmm, _, hx⟩
  · simp [Value.cells] at hcs
    obtain ⟨rfl, rfl, rfl⟩ := hcs
    exact ⟨[], by omega, by unfold maxLen; omega, rfl, .inl rfl, by simp⟩
  · simp [Value.cells] at hcs
    obtain ⟨rfl, rfl, rfl⟩ := hcs
    have hmc : m = c := by simpa using hmm
    subst hmc
    have ce : Try.prog.cellsOf 42 = 4 := by kernel_rfl
    have c1 : Try.prog.cellsOf 40 = 1 := by kernel_rfl
    have c2 : Try.prog.cellsOf 5 = 1 := by kernel_rfl
    have c3 : Try.prog.cellsOf 9 = 1 := by kernel_rfl
    have each : ∀ i, i < m → ∃ r : Rc, r.ok ∧ W.cell? (x.add (i * 4)) = some (.int .u64 (r.time : Int)) ∧ W.cell? (x.add (i * 4 + 1)) = some (.int .u8 (r.lv.toNat : Int)) ∧ W.cell? (x.add (i * 4 + 2)) = some (.string ⟨r.src.toArray⟩) ∧ W.cell? (x.add (i * 4 + 3)) = some (.string ⟨r.text.toArray⟩) := fun i hi => by
      obtain ⟨cs', h1, h2⟩ := hx i hi
      rw [ce] at h1
      obtain ⟨_, hlen, hcell⟩ := World.cells?_some h1
      obtain ⟨xs, q, _, _, _, hlx, hxs⟩ := DataW.trod_struct Try.underlying42 h2
      match cs', hlen, xs, hlx with
      | [v0, v1, v2, v3], _, [y0, y1, y2, y3], _ =>
        have g0 := hxs 0 _ rfl
        have g1 := hxs 1 _ rfl
        have g2 := hxs 2 _ rfl
        have g3 := hxs 3 _ rfl
        simp [c1, c2, c3] at g0 g1 g2 g3
        obtain ⟨z0, e0, _, w0⟩ := DataW.trod_int Try.underlying40 g0
        obtain ⟨z1, e1, _, w1⟩ := DataW.trod_int Try.underlying5 g1
        obtain ⟨z2, e2, _, w2⟩ := DataW.trod_string Try.underlying9 g2
        obtain ⟨z3, e3, _, w3⟩ := DataW.trod_string Try.underlying9 g3
        simp only [List.cons.injEq, and_true] at e0 e1 e2 e3
        subst e0 e1 e2 e3
        obtain ⟨s2, rfl⟩ := txt_of z2
        obtain ⟨s3, rfl⟩ := txt_of z3
        obtain ⟨a0, a1⟩ := bounds_u64 w0
        obtain ⟨b0, b1⟩ := bounds_u8 w1
        rw [txt_size] at w2 w3
        obtain ⟨t0, rfl⟩ := Int.eq_ofNat_of_zero_le a0
        obtain ⟨t1, rfl⟩ := Int.eq_ofNat_of_zero_le b0
        have f0 := hcell 0 (by omega)
        have f1 := hcell 1 (by omega)
        have f2 := hcell 2 (by omega)
        have f3 := hcell 3 (by omega)
        rw [Deep.add_add] at f0 f1 f2 f3
        have e8 : ((UInt8.ofNat t1).toNat : Int) = (t1 : Int) := by rw [UInt8.toNat_ofNat']; omega
        exact ⟨⟨t0, UInt8.ofNat t1, s2, s3⟩, ⟨by show t0 < 2 ^ 64; omega, w2, w3⟩, by simpa using f0, by rw [e8]; simpa using f1, by simpa using f2, by simpa using f3⟩
    obtain ⟨V, hV⟩ := Deep.choose_lt each
    refine ⟨(List.range n).map V, hl, hm, by simp, ?_, fun r hr => ?_⟩
    · rcases Nat.eq_zero_or_pos n with h0 | h0
      · exact .inl h0
      obtain ⟨b, off, spot⟩ := x
      have hc0 := (hV 0 (by omega)).2.1
      have hspot : spot = none := by simpa [Addr.add] using World.cell?_spot hc0
      subst hspot
      refine .inr ⟨b, off, rfl, by simpa [Addr.add] using World.block_lt_of_cell? W _ hc0, fun i hi => ?_⟩
      have e : ((List.range n).map V).getD i default = V i := by simp [List.getD_eq_getElem?_getD, hi]
      rw [e]
      obtain ⟨_, h2, h3, h4, h5⟩ := hV i (by omega)
      rw [addr_addRc] at h2 h3 h4 h5
      exact ⟨h2, by rw [Nat.add_assoc]; exact h3, by rw [Nat.add_assoc]; exact h4, by rw [Nat.add_assoc]; exact h5⟩
    · obtain ⟨i, hi, rfl⟩ := List.mem_map.1 hr
      exact (hV i (by have := List.mem_range.1 hi; omega)).1

/-- v is nil, or lies in a block of the call's own, and reads as these records. -/
def OwnRc (w : World) (base : Nat) (v : Value) (L : List Rc) : Prop := w.ownsRow base 42 4 v L.length (L.flatMap rcCells)
theorem rc_info : (Try.prog.info? 42).map (fun i => (i.zero, i.size, i.bytes)) = some (some (.agg #[.int .u64 0, .int .u8 0, .string ⟨#[]⟩, .string ⟨#[]⟩]), 4, 48) := by kernel_rfl
theorem OwnRc.nil (w : World) (base : Nat) : OwnRc w base (.slice none 0 0) [] := World.ownsRow_nil w base _ _
theorem OwnRc.ext {w w' : World} {base : Nat} {v : Value} {L : List Rc} (h : OwnRc w base v L) (hE : Ext w w') : OwnRc w' base v L :=
  World.ownsRow.kept h (hE.grown none) (by cases hv : v.ownBlock <;> simp)
theorem OwnRc.lt {w : World} {base : Nat} {v : Value} {L : List Rc} (h : OwnRc w base v L) : ∀ k, v.ownBlock = some k → base ≤ k ∧ k < w.heap.size := World.ownsRow.lt h
theorem OwnRc.kept {w w' : World} {base : Nat} {v : Value} {L : List Rc} {ob : Option Nat} (h : OwnRc w base v L) (hG : w.grownBy w' ob) (ho : v.ownBlock = none ∨ v.ownBlock ≠ ob) : OwnRc w' base v L := World.ownsRow.kept h hG ho
theorem Mod.ownRc {w w' : World} {g : Nat} {ob : Option Nat} (h : Mod w w' g ob) {base : Nat} {v : Value} {L : List Rc} (hv : OwnRc w base v L) (hg : v.ownBlock ≠ some g) (ho : v.ownBlock = none ∨ v.ownBlock ≠ ob) : OwnRc w' base v L := by
  refine ⟨hv.1, ?_⟩
  rcases hv.2 with hn | ⟨x, cap, cur, rfl, hb, hgg, rest⟩
  · exact .inl hn
  · refine .inr ⟨x, cap, cur, rfl, hb, ?_, rest⟩
    rw [h.block x (Array.getElem?_eq_some_iff.1 hgg).1 (by intro e; subst e; simp [Value.ownBlock] at hg) (by
      intro e
      rcases ho with ho | ho
      · simp [Value.ownBlock] at ho
      · exact ho (by simpa [Value.ownBlock] using e))]
    exact hgg
theorem rcCells_get : ∀ (L : List Rc) (i j : Nat), i < L.length → j < 4 → (L.flatMap rcCells)[i * 4 + j]? = (rcCells (L.getD i default))[j]?
  | o :: L, 0, j, _, hj => by
    rw [List.flatMap_cons, Nat.zero_mul, Nat.zero_add, List.getElem?_append_left (by simp [rcCells]; omega)]
    rfl
  | o :: L, i + 1, j, h, hj => by
    rw [List.flatMap_cons, List.getElem?_append_right (by simp [rcCells]; omega)]
    have := rcCells_get L i j (by simpa using h) hj
    rw [show (i + 1) * 4 + j - (rcCells o).length = i * 4 + j by simp [rcCells]; omega, this]
    simp
/-- A slice of records that is written out. -/
theorem rcsNew (w : World) (L : List Rc) (cs : Array Value) (t : TypeId) (fr : Nat × Nat) (h : cs = (L.flatMap rcCells).toArray) (n : Nat) (hn : L.length = n) (hok : ∀ r ∈ L, r.ok) :
    RcsAt (w.alloc (.cells cs t fr)) (w.alloc (.cells cs t fr)).heap.size (some ⟨w.heap.size, 0, none⟩) n L := by
  subst h
  subst hn
  refine ⟨rfl, .inr ⟨w.heap.size, 0, rfl, by simp, fun i hi => ?_⟩, hok⟩
  have hc : ∀ j, j < 4 → (w.alloc (.cells (L.flatMap rcCells).toArray t fr)).cell? ⟨w.heap.size, i * 4 + j, none⟩ = (rcCells (L.getD i default))[j]? := fun j hj => by
    rw [World.cell?_alloc_mark, ← rcCells_get L i j hi hj]
    simp
  rw [Nat.zero_add]
  exact ⟨by have := hc 0 (by omega); simpa [rcCells] using this, by have := hc 1 (by omega); simpa [rcCells] using this, by have := hc 2 (by omega); simpa [rcCells] using this, by have := hc 3 (by omega); simpa [rcCells] using this⟩

/-- What its elements hold. -/
theorem OwnRc.form {w : World} {base : Nat} {v : Value} {L : List Rc} (h : OwnRc w base v L) (hok : ∀ r ∈ L, r.ok) : ∃ A c, v = .slice A L.length c ∧ L.length ≤ c ∧ c ≤ maxLen ∧ RcsAt w w.heap.size A L.length L := by
  have hl := h.lt
  rcases h.2 with ⟨rfl, h0⟩ | ⟨g, cap, cur, rfl, hb, hgg, hn, hc, hs, ht⟩
  · exact ⟨none, 0, by rw [h0], by omega, by unfold maxLen; omega, rfl, .inl h0, hok⟩
  · refine ⟨_, cap, rfl, hn, hc, rfl, .inr ⟨g, 0, rfl, (hl g rfl).2, fun i hi => ?_⟩, hok⟩
    have hcell : ∀ j, j < 4 → w.cell? ⟨g, i * 4 + j, none⟩ = (rcCells (L.getD i default))[j]? := fun j hj => by
      rw [cell_of_row w g (i * 4 + j) cur _ _ hgg, ← rcCells_get L i j hi hj, ← ht, List.getElem?_take, if_pos (by omega)]
      simp
    rw [Nat.zero_add]
    exact ⟨by have := hcell 0 (by omega); simpa [rcCells] using this, by have := hcell 1 (by omega); simpa [rcCells] using this, by have := hcell 2 (by omega); simpa [rcCells] using this, by have := hcell 3 (by omega); simpa [rcCells] using this⟩

section
variable {o : Oper} {a : Act} {K : Act → World → Prop} {Q : Exit → Act → World → Prop} {w : World} {base : Nat} {v : Value} {L : List Rc}
/-- append of one record, which lies in a block of its own. -/
theorem wpList_appRc {ops : Array Oper} {rest : List Oper} (hgd : o.guard = none) (s x : Operand) (ho : o.op = .call { callee := .builtin .append, args := #[s, x], argTypes := #[22, 22] }) (hs : a.eval s = v) (p : Rc) (hown : OwnRc (w.alloc (.cells #[.int .u64 (p.time : Int), .int .u8 (p.lv.toNat : Int), .string ⟨p.src.toArray⟩, .string ⟨p.text.toArray⟩] 42)) base v L)
    {c : Nat} (hx : a.eval x = .slice (some ⟨w.heap.size, 0, none⟩) 1 c) (hlen : L.length ≤ 1000000) (hbase : base ≤ w.heap.size)
    (h : ∀ v' w', OwnRc w' base v' (L ++ [p]) → (w.alloc (.cells #[.int .u64 (p.time : Int), .int .u8 (p.lv.toNat : Int), .string ⟨p.src.toArray⟩, .string ⟨p.text.toArray⟩] 42)).grownBy w' v.ownBlock → NewOb (w.alloc (.cells #[.int .u64 (p.time : Int), .int .u8 (p.lv.toNat : Int), .string ⟨p.src.toArray⟩, .string ⟨p.text.toArray⟩] 42)) v.ownBlock v'.ownBlock → wpList Try.prog ops Q rest (a.put o.dst v') w') :
    wpList Try.prog ops Q (o :: rest) a (w.alloc (.cells #[.int .u64 (p.time : Int), .int .u8 (p.lv.toNat : Int), .string ⟨p.src.toArray⟩, .string ⟨p.text.toArray⟩] 42)) := by
  obtain ⟨i, hi, hz, hsz, hby⟩ := info_parts rc_info
  refine wpList_append_own_at _ hgd s x 22 ho base 42 i _ 4 48 Try.underlying22 hi hz hsz hby rfl (by omega) v L.length (L.flatMap rcCells) hs hown ⟨w.heap.size, 0, none⟩ 1 c (rcCells p) hx rfl (by
    intro j u hu
    rw [addr_addRc, Nat.zero_add, cellNew]
    match j, hu with
    | 0, hu => simpa [rcCells] using hu
    | 1, hu => simpa [rcCells] using hu
    | 2, hu => simpa [rcCells] using hu
    | 3, hu => simpa [rcCells] using hu
    | j + 4, hu => simp [rcCells] at hu) (by
    intro u hu
    simp [rcCells] at hu
    rcases hu with rfl | rfl | rfl | rfl <;> rfl) (by unfold maxLen; omega) (by omega) (by simp; omega) ?_
  intro v' w' h2 h3 _ h5
  refine h v' w' ?_ h3 (h5.imp id fun h => ⟨_, h, Nat.le_refl _⟩)
  unfold OwnRc
  rw [List.length_append, List.flatMap_append]
  simpa using h2
end
end Go.Proofs.Ytkgkppblkdihkaa

namespace Go.Proofs.Ytkgkppblkdihkaa
namespace Rcs
open Num

/-- The bytes from q up to q'. -/
def seg (b : List UInt8) (q q' : Nat) : List UInt8 := (b.drop q).take (q' - q)
theorem seg_app {b : List UInt8} {q r s : Nat} (h1 : q ≤ r) (h2 : r ≤ s) : seg b q r ++ seg b r s = seg b q s := by
  unfold seg
  have : b.drop r = (b.drop q).drop (r - q) := by rw [List.drop_drop, show q + (r - q) = r by omega]
  rw [this, show s - q = (r - q) + (s - r) by omega, List.take_add]
theorem seg_nil (b : List UInt8) (q : Nat) : seg b q q = [] := by simp [seg]
theorem seg_end {b : List UInt8} {q : Nat} : seg b q b.length = b.drop q := by unfold seg; exact List.take_of_length_le (by rw [List.length_drop]; omega)
theorem num_is {b : List UInt8} {q x q' : Nat} (h : numR b q 0 = (x, q', 0)) : x < 2 ^ 64 ∧ q < q' ∧ q' ≤ b.length ∧ enc x = seg b q q' := by
  unfold numR at h
  rw [if_pos rfl] at h
  have hf := scan_facts b q
  rw [h] at hf
  obtain ⟨y, hv, ht, _, h1, h2⟩ := scanF_one b q 10 0 0 x q' h
  simp only [Nat.pow_zero, Nat.mul_one, Nat.zero_add, Nat.add_zero] at hv ht h1
  subst hv
  exact ⟨hf.1, by omega, h2, ht.symm⟩
theorem num_err {b : List UInt8} {q : Nat} {e : Int} (h : e ≠ 0) : (numR b q e).2.2 = e := by unfold numR; rw [if_neg h]
theorem int_err {b : List UInt8} {q : Nat} {e most : Int} (h : e ≠ 0) : (intR b q e most).2.2 = e := by
  unfold intR
  rw [num_err h, if_neg h]
theorem take_err {b : List UInt8} {q : Nat} {e n : Int} (h : e ≠ 0) : (takeR b q e n).2.2 = e := by unfold takeR; rw [if_neg h]
theorem byte_err {b : List UInt8} {q : Nat} {e : Int} (h : e ≠ 0) : (byteR b q e).2.2 = e := take_err h
theorem text_err {b : List UInt8} {q : Nat} {e most : Int} (h : e ≠ 0) : (textR b q e most).2.2 = e := by
  unfold textR
  rw [int_err h, if_neg h]
  exact int_err h
theorem int_is {b : List UInt8} {q x q' : Nat} {most : Int} (h : intR b q 0 most = (x, q', 0)) : (x : Int) ≤ most ∧ numR b q 0 = (x, q', 0) := by
  unfold intR at h
  obtain ⟨y, p, e, hn⟩ : ∃ y p e, numR b q 0 = (y, p, e) := ⟨_, _, _, rfl⟩
  rw [hn] at h
  dsimp only at h
  by_cases h1 : e = 0
  · rw [if_pos h1] at h
    by_cases h2 : most < (y : Int)
    · rw [if_pos h2] at h; simp at h
    · rw [if_neg h2] at h
      subst h1
      rw [hn]
      simp only [Prod.mk.injEq] at h
      obtain ⟨rfl, rfl, _⟩ := h
      exact ⟨by omega, rfl⟩
  · rw [if_neg h1] at h
    simp only [Prod.mk.injEq] at h
    exact absurd h.2.2 h1
theorem take_is {b x : List UInt8} {q n q' : Nat} (h : takeR b q 0 (n : Int) = (x, q', 0)) : q' = q + n ∧ (n = 0 ∨ q' ≤ b.length) ∧ x = seg b q q' ∧ x.length = n := by
  unfold takeR at h
  rw [if_pos rfl, if_neg (by omega)] at h
  by_cases h1 : ((b.length - q : Nat) : Int) < (n : Int)
  · rw [if_pos h1] at h; simp at h
  · rw [if_neg h1, Int.toNat_natCast] at h
    simp only [Prod.mk.injEq] at h
    refine ⟨h.2.1.symm, by omega, ?_, ?_⟩
    · rw [← h.1, ← h.2.1, seg, show q + n - q = n by omega]
    · rw [← h.1, List.length_take, List.length_drop]; omega
theorem byte_is {b : List UInt8} {q x q' : Nat} (h : byteR b q 0 = (x, q', 0)) : x < 256 ∧ q' = q + 1 ∧ q' ≤ b.length ∧ [UInt8.ofNat x] = seg b q q' := by
  unfold byteR at h
  obtain ⟨t, p, e, ht⟩ : ∃ t p e, takeR b q 0 1 = (t, p, e) := ⟨_, _, _, rfl⟩
  rw [ht] at h
  simp only [Prod.mk.injEq] at h
  obtain ⟨h1, h2, h3⟩ := h
  subst h2 h3
  obtain ⟨k1, k2, k3, k4⟩ := take_is (n := 1) ht
  match t, k4 with
  | [c], _ =>
    have hx : x = c.toNat := by rw [← h1]; rfl
    refine ⟨by rw [hx]; exact c.toNat_lt, k1, by omega, ?_⟩
    rw [← k3, hx, UInt8.ofNat_toNat]
theorem text_is {b s : List UInt8} {q q' : Nat} {most : Int} (h : textR b q 0 most = (s, q', 0)) : (s.length : Int) ≤ most ∧ q < q' ∧ q' ≤ b.length ∧ txtB s = seg b q q' := by
  unfold textR at h
  obtain ⟨x, q1, e, hx⟩ : ∃ x q1 e, intR b q 0 most = (x, q1, e) := ⟨_, _, _, rfl⟩
  rw [hx] at h
  dsimp only at h
  by_cases h1 : e = 0
  · subst h1
    obtain ⟨i1, i5⟩ := int_is hx
    obtain ⟨-, i2, i3, i4⟩ := num_is i5
    rw [if_pos rfl] at h
    by_cases h2 : b.length - q1 < x
    · rw [if_pos h2] at h; simp at h
    · rw [if_neg h2] at h
      obtain ⟨t1, t2, t3, t4⟩ := take_is h
      refine ⟨by omega, by omega, by omega, ?_⟩
      rw [txtB, t4, i4, t3, seg_app (by omega) (by omega)]
  · rw [if_neg h1] at h
    simp only [Prod.mk.injEq] at h
    exact absurd h.2.2 h1
/-- Of a record that is read. -/
theorem one_is {whole : Bool} {b : List UInt8} {q q' : Nat} {r : Rc} (h : recR whole b q = (r, q', 0)) :
    q < q' ∧ q' ≤ b.length ∧ oneB whole r = seg b q q' ∧ r.time < 2 ^ 64 ∧ r.src.length ≤ 4000 ∧ r.text.length ≤ 4000 := by
  obtain ⟨t1, t2, t3, ht⟩ : ∃ t1 t2 t3, timeR whole b q = (t1, t2, t3) := ⟨_, _, _, rfl⟩
  obtain ⟨l1, l2, l3, hl⟩ : ∃ l1 l2 l3, lvR whole b q = (l1, l2, l3) := ⟨_, _, _, rfl⟩
  obtain ⟨s1, s2, s3, hs⟩ : ∃ s1 s2 s3, srcR whole b q = (s1, s2, s3) := ⟨_, _, _, rfl⟩
  obtain ⟨x1, x2, x3, hx⟩ : ∃ x1 x2 x3, txtR whole b q = (x1, x2, x3) := ⟨_, _, _, rfl⟩
  unfold recR at h
  rw [ht, hl, hs, hx] at h
  simp only [Prod.mk.injEq] at h
  obtain ⟨hr, h2, h3⟩ := h
  subst h2 h3 hr
  unfold txtR at hx
  rw [hs] at hx
  dsimp only at hx
  have hs0 : s3 = 0 := Decidable.byContradiction fun hne => by
    have := text_err (b := b) (q := s2) (most := 4000) hne
    rw [hx] at this
    exact hne this.symm
  subst hs0
  unfold srcR at hs
  rw [hl] at hs
  dsimp only at hs
  have hl0 : l3 = 0 := Decidable.byContradiction fun hne => by
    have := text_err (b := b) (q := l2) (most := 4000) hne
    rw [hs] at this
    exact hne this.symm
  subst hl0
  obtain ⟨a1, a2, a3, a4⟩ := text_is hs
  obtain ⟨c1, c2, c3, c4⟩ := text_is hx
  cases whole with
  | false =>
    unfold lvR at hl
    rw [if_neg (by simp)] at hl
    unfold timeR at ht
    rw [if_neg (by simp)] at ht
    simp only [Prod.mk.injEq] at hl ht
    obtain ⟨rfl, rfl, -⟩ := hl
    obtain ⟨rfl, -, -⟩ := ht
    refine ⟨by omega, c3, ?_, by simp, by dsimp only; omega, by dsimp only; omega⟩
    unfold oneB
    rw [if_neg (by simp)]
    dsimp only
    rw [a4, c4, List.nil_append, seg_app (by omega) (by omega)]
  | true =>
    unfold lvR at hl
    rw [if_pos rfl, ht] at hl
    dsimp only at hl
    have ht0 : t3 = 0 := Decidable.byContradiction fun hne => by
      have := byte_err (b := b) (q := t2) hne
      rw [hl] at this
      exact hne this.symm
    subst ht0
    unfold timeR at ht
    rw [if_pos rfl] at ht
    obtain ⟨n1, n2, n3, n4⟩ := num_is ht
    obtain ⟨b1, b2, b3, b4⟩ := byte_is hl
    refine ⟨by omega, c3, ?_, n1, by dsimp only; omega, by dsimp only; omega⟩
    unfold oneB
    rw [if_pos rfl]
    dsimp only
    rw [a4, c4, n4, b4, seg_app (by omega) (by omega), seg_app (by omega) (by omega), seg_app (by omega) (by omega)]
theorem read_is {whole : Bool} {b : List UInt8} : ∀ (f q : Nat) (l : List Rc), b.length ≤ q + f → q ≤ b.length → readF whole b f q = (l, 0) → bytesB whole l = b.drop q ∧ ∀ r ∈ l, r.time < 2 ^ 64 ∧ r.src.length ≤ 4000 ∧ r.text.length ≤ 4000
  | 0, q, l, hf, hq, h => by
    rw [readF] at h
    simp only [Prod.mk.injEq] at h
    obtain ⟨rfl, -⟩ := h
    exact ⟨by rw [List.drop_eq_nil_of_le (by omega)]; rfl, by simp⟩
  | f + 1, q, l, hf, hq, h => by
    rw [readF] at h
    by_cases h1 : b.length ≤ q
    · rw [if_pos h1] at h
      simp only [Prod.mk.injEq] at h
      obtain ⟨rfl, -⟩ := h
      exact ⟨by rw [List.drop_eq_nil_of_le h1]; rfl, by simp⟩
    rw [if_neg h1] at h
    obtain ⟨r, q', e, hr⟩ : ∃ r q' e, recR whole b q = (r, q', e) := ⟨_, _, _, rfl⟩
    rw [hr] at h
    dsimp only at h
    by_cases he : e = 0
    · subst he
      rw [if_neg (by simp)] at h
      obtain ⟨o1, o2, o3, o4⟩ := one_is hr
      obtain ⟨t, e2, ht⟩ : ∃ t e2, readF whole b f q' = (t, e2) := ⟨_, _, rfl⟩
      rw [ht] at h
      dsimp only at h
      by_cases he2 : e2 = 0
      · subst he2
        rw [if_neg (by simp)] at h
        simp only [Prod.mk.injEq] at h
        obtain ⟨rfl, -⟩ := h
        obtain ⟨i1, i2⟩ := read_is f q' t (by omega) o2 ht
        refine ⟨?_, fun x hx => ?_⟩
        · unfold bytesB at i1 ⊢
          rw [List.flatMap_cons, i1, o3, ← seg_end (q := q'), seg_app (by omega) o2, seg_end]
        · rcases List.mem_cons.1 hx with rfl | hx
          · exact o4
          · exact i2 x hx
      · rw [if_pos he2] at h
        simp only [Prod.mk.injEq] at h
        exact absurd h.2 he2
    · rw [if_pos he] at h
      simp only [Prod.mk.injEq] at h
      exact absurd h.2 he
/-- Bytes that are read are those that are written. -/
theorem read_one {whole : Bool} {b : List UInt8} {l : List Rc} (h : readE whole b = (l, 0)) : bytesB whole l = b ∧ ∀ r ∈ l, r.time < 2 ^ 64 ∧ r.src.length ≤ 4000 ∧ r.text.length ≤ 4000 := by
  have := read_is b.length 0 l (by omega) (by omega) h
  simpa using this
end Rcs
end Go.Proofs.Ytkgkppblkdihkaa

namespace Go.Proofs.Ytkgkppblkdihkaa
namespace Rcs
open Num

/-! ### Groups -/
theorem more_le (whole : Bool) (size : Int) : ∀ (sum : Nat) (l : List Rc), moreG whole size sum l ≤ l.length
  | _, [] => by simp [moreG]
  | sum, r :: t => by
    have := more_le whole size (sum + (oneB whole r).length) t
    rw [moreG]
    split <;> simp <;> omega
/-- What goes in fits; what doesn't, doesn't. -/
theorem more_fits (whole : Bool) (size : Int) : ∀ (sum : Nat) (l : List Rc),
    (0 < moreG whole size sum l → ((sum + (bytesB whole (l.take (moreG whole size sum l))).length : Nat) : Int) ≤ size) ∧
    (moreG whole size sum l < l.length → size < ((sum + (bytesB whole (l.take (moreG whole size sum l))).length + (oneB whole (l.getD (moreG whole size sum l) default)).length : Nat) : Int))
  | _, [] => by simp [moreG]
  | sum, r :: t => by
    obtain ⟨h1, h2⟩ := more_fits whole size (sum + (oneB whole r).length) t
    rw [moreG]
    by_cases h : ((sum + (oneB whole r).length : Nat) : Int) ≤ size
    · rw [if_pos h, List.take_succ_cons]
      have e : (bytesB whole (r :: t.take (moreG whole size (sum + (oneB whole r).length) t))).length = (oneB whole r).length + (bytesB whole (t.take (moreG whole size (sum + (oneB whole r).length) t))).length := by
        unfold bytesB; rw [List.flatMap_cons, List.length_append]
      rw [e]
      constructor
      · intro _
        by_cases h0 : 0 < moreG whole size (sum + (oneB whole r).length) t
        · have := h1 h0; omega
        · have h0 : moreG whole size (sum + (oneB whole r).length) t = 0 := by omega
          rw [h0] at *
          simp only [List.take_zero, bytesB, List.flatMap_nil, List.length_nil]
          omega
      · intro hl
        have := h2 (by simpa using hl)
        rw [List.getD_cons_succ]
        omega
    · rw [if_neg h]
      refine ⟨fun h0 => absurd h0 (by omega), fun _ => ?_⟩
      simp [bytesB] at h ⊢
      omega
/-- The groups from a place on. -/
theorem groups_more {whole : Bool} {size : Int} : ∀ (f : Nat) (l : List Rc), l.length ≤ f → groupsF whole size f l = groupsF whole size l.length l
  | 0, l, h => by obtain rfl := List.eq_nil_of_length_eq_zero (by omega : l.length = 0); rfl
  | f + 1, [], _ => rfl
  | f + 1, r :: t, h => by
    have hm := more_le whole size (oneB whole r).length t
    rw [groupsF, List.length_cons, groupsF]
    have h1 : (t.drop (moreG whole size (oneB whole r).length t)).length ≤ t.length := by rw [List.length_drop]; omega
    rw [groups_more f _ (by simp at h; omega), groups_more t.length _ h1]
/-- The groups of the records from the place i on. -/
def groupsAt (size : Int) (whole : Bool) (l : List Rc) (i : Nat) : List Nat := groupsF whole size (l.length - i) (l.drop i)
theorem groups_end {size : Int} {whole : Bool} {l : List Rc} {i : Nat} (h : l.length ≤ i) : groupsAt size whole l i = [] := by unfold groupsAt; rw [show l.length - i = 0 by omega]; rfl
/-- How many records the group has that begins at the place i. -/
def groupN (size : Int) (whole : Bool) (l : List Rc) (i : Nat) : Nat := moreG whole size (oneB whole (l.getD i default)).length (l.drop (i + 1)) + 1
theorem rc_drop {l : List Rc} {i : Nat} (h : i < l.length) : l.drop i = l.getD i default :: l.drop (i + 1) := by
  rw [List.drop_eq_getElem_cons h, List.getD_eq_getElem?_getD, List.getElem?_eq_getElem h]
  rfl
theorem groups_step {size : Int} {whole : Bool} {l : List Rc} {i : Nat} (h : i < l.length) : groupsAt size whole l i = groupN size whole l i :: groupsAt size whole l (i + groupN size whole l i) ∧ i + groupN size whole l i ≤ l.length := by
  have hm := more_le whole size (oneB whole (l.getD i default)).length (l.drop (i + 1))
  rw [List.length_drop] at hm
  unfold groupsAt groupN
  obtain ⟨f, hf⟩ : ∃ f, l.length - i = f + 1 := ⟨l.length - i - 1, by omega⟩
  rw [hf, rc_drop h, groupsF, List.drop_drop]
  refine ⟨?_, by omega⟩
  congr 1
  rw [groups_more f _ (by rw [List.length_drop]; omega), List.length_drop]
  rw [show i + 1 + moreG whole size (oneB whole (l.getD i default)).length (l.drop (i + 1)) = i + (moreG whole size (oneB whole (l.getD i default)).length (l.drop (i + 1)) + 1) by omega]
/-- A group of several fits; with the next record it wouldn't. -/
theorem group_fits {size : Int} {whole : Bool} {l : List Rc} {i : Nat} (h : i < l.length) :
    (1 < groupN size whole l i → ((bytesB whole ((l.drop i).take (groupN size whole l i))).length : Int) ≤ size) ∧
    (i + groupN size whole l i < l.length → size < ((bytesB whole ((l.drop i).take (groupN size whole l i))).length : Int) + ((oneB whole (l.getD (i + groupN size whole l i) default)).length : Int)) := by
  obtain ⟨h1, h2⟩ := more_fits whole size (oneB whole (l.getD i default)).length (l.drop (i + 1))
  unfold groupN
  rw [rc_drop h, List.take_succ_cons]
  have e : (bytesB whole (l.getD i default :: (l.drop (i + 1)).take (moreG whole size (oneB whole (l.getD i default)).length (l.drop (i + 1))))).length = (oneB whole (l.getD i default)).length + (bytesB whole ((l.drop (i + 1)).take (moreG whole size (oneB whole (l.getD i default)).length (l.drop (i + 1))))).length := by
    unfold bytesB; rw [List.flatMap_cons, List.length_append]
  rw [e]
  refine ⟨fun hg => by have := h1 (by omega); omega, fun hg => ?_⟩
  have := h2 (by rw [List.length_drop]; omega)
  have e2 : (l.drop (i + 1)).getD (moreG whole size (oneB whole (l.getD i default)).length (l.drop (i + 1))) default = l.getD (i + (moreG whole size (oneB whole (l.getD i default)).length (l.drop (i + 1)) + 1)) default := by
    rw [List.getD_eq_getElem?_getD, List.getElem?_drop, List.getD_eq_getElem?_getD]
    congr 2
    omega
  rw [e2] at this
  omega

/-! ### Columns -/
theorem sub_add {a b : Nat} (ha : a < 2 ^ 64) (hb : b < 2 ^ 64) : (b + sub64 a b) % 2 ^ 64 = a := by unfold sub64; omega
theorem sub_lt (a b : Nat) : sub64 a b < 2 ^ 64 := Nat.mod_lt _ (by decide)
theorem times_at {b : List UInt8} : ∀ (l : List Rc) (was : Nat) (pre post : List UInt8), b = pre ++ (timesB was l ++ post) → was < 2 ^ 64 → (∀ r ∈ l, r.time < 2 ^ 64) → timesR b l.length was pre.length = (l.map Rc.time, pre.length + (timesB was l).length, 0)
  | [], was, pre, post, _, _, _ => by simp [timesR, timesB]
  | r :: t, was, pre, post, hb, hw, h => by
    have hr := h r (by simp)
    have hb1 : b = pre ++ (enc (zig (sub64 r.time was)) ++ (timesB r.time t ++ post)) := by rw [hb, timesB, List.append_assoc]
    have h1 := num_at hb1 (zig_lt (sub_lt r.time was))
    have ih := times_at (b := b) t r.time (pre ++ enc (zig (sub64 r.time was))) post (by rw [hb1]; simp) hr (fun x hx => h x (by simp [hx]))
    rw [List.length_append] at ih
    rw [List.length_cons, timesR, h1]
    dsimp only
    rw [if_neg (by simp), zag_zig (sub_lt r.time was), sub_add hr hw, ih]
    dsimp only
    rw [if_neg (by simp), timesB, List.length_append, List.map_cons, Nat.add_assoc]
theorem run_le (x : UInt8) : ∀ l : List Rc, rowN x l ≤ l.length
  | [] => by simp [rowN]
  | r :: t => by
    have := run_le x t
    rw [rowN]
    split <;> simp <;> omega
/-- A row's further records write nothing. -/
theorem levels_run (x : UInt8) : ∀ l : List Rc, levelsB (some x) l = levelsB (some x) (l.drop (rowN x l)) ∧ l.map Rc.lv = List.replicate (rowN x l) x ++ (l.drop (rowN x l)).map Rc.lv ∧ ∀ r, (l.drop (rowN x l)).head? = some r → r.lv ≠ x
  | [] => by simp [rowN]
  | r :: t => by
    obtain ⟨h1, h2, h3⟩ := levels_run x t
    rw [rowN]
    by_cases h : r.lv = x
    · rw [if_pos h, List.drop_succ_cons, levelsB, if_pos (by rw [h]), List.nil_append, h, List.replicate_succ, List.map_cons, h, List.cons_append]
      exact ⟨h1, by rw [h2], h3⟩
    · rw [if_neg h, List.drop_zero]
      refine ⟨rfl, by simp, fun y hy => ?_⟩
      simp at hy
      rw [← hy]
      exact h
theorem levels_at {b : List UInt8} : ∀ (f : Nat) (l : List Rc) (p : Option UInt8) (pre post : List UInt8), l.length ≤ f → l.length ≤ 1000000 → b = pre ++ (levelsB p l ++ post) → (∀ r, l.head? = some r → p ≠ some r.lv) → levelsR b f l.length p pre.length = (l.map Rc.lv, pre.length + (levelsB p l).length, 0)
  | 0, l, p, pre, post, hf, _, _, _ => by obtain rfl := List.eq_nil_of_length_eq_zero (by omega : l.length = 0); simp [levelsR, levelsB]
  | f + 1, [], p, pre, post, _, _, _, _ => by simp [levelsR, levelsB]
  | f + 1, r :: t, p, pre, post, hf, hl, hb, hp => by
    have hpr := hp r rfl
    obtain ⟨g1, g2, g3⟩ := levels_run r.lv t
    have hrun := run_le r.lv t
    have e0 : levelsB p (r :: t) = r.lv :: (enc (rowN r.lv t + 1) ++ levelsB (some r.lv) (t.drop (rowN r.lv t))) := by
      rw [levelsB, if_neg hpr, g1]
      simp
    rw [e0] at hb ⊢
    have hb1 : b = pre ++ (r.lv :: ((enc (rowN r.lv t + 1) ++ levelsB (some r.lv) (t.drop (rowN r.lv t))) ++ post)) := by rw [hb]; simp
    have h1 := byte_at hb1
    have h2 : runR b pre.length (r :: t).length = (rowN r.lv t + 1, pre.length + 1 + (enc (rowN r.lv t + 1)).length, 0) := by
      unfold runR
      rw [h1]
      dsimp only
      have := int_at (b := b) (pre := pre ++ [r.lv]) (post := levelsB (some r.lv) (t.drop (rowN r.lv t)) ++ post) (x := rowN r.lv t + 1) (most := ((r :: t).length : Int)) (by rw [hb1]; simp) (by simp at hl; omega) (by rw [List.length_cons]; omega)
      rw [List.length_append, List.length_singleton] at this
      exact this
    have ih := levels_at (b := b) f (t.drop (rowN r.lv t)) (some r.lv) (pre ++ (r.lv :: enc (rowN r.lv t + 1))) post (by rw [List.length_drop]; simp at hf; omega) (by rw [List.length_drop]; simp at hl; omega) (by rw [hb1]; simp) (fun y hy e => g3 y hy (by injection e with e; exact e.symm))
    rw [levelsR, if_neg (by simp), h2, h1]
    dsimp only
    rw [if_neg (by simp), UInt8.ofNat_toNat, if_neg (by rintro (h | h); · omega
                                                        · exact hpr h)]
    rw [List.length_append, List.length_cons, List.length_drop] at ih
    rw [show (r :: t).length - (rowN r.lv t + 1) = t.length - rowN r.lv t by simp, show pre.length + 1 + (enc (rowN r.lv t + 1)).length = pre.length + ((enc (rowN r.lv t + 1)).length + 1) by omega, ih]
    dsimp only
    rw [if_neg (by simp), List.map_cons, g2, List.replicate_succ, List.cons_append, List.length_cons, List.length_append]
    congr 2
    omega
/-- What was written as columns is read, whatever stands behind it. -/
theorem columns_back {l : List Rc} (hl : l.length ≤ 20000) (h : ∀ r ∈ l, r.time < 2 ^ 64) (more : List UInt8) : readCE (l.length : Int) (columnsE l ++ more) = (l.map Rc.time, l.map Rc.lv, (columnsE l).length, 0) := by
  have h1 := times_at (b := columnsE l ++ more) l 0 [] (levelsB none l ++ more) (by simp [columnsE]) (by decide) h
  have h2 := levels_at (b := columnsE l ++ more) l.length l none (timesB 0 l) more (Nat.le_refl _) (by omega) (by simp [columnsE]) (fun r _ => by simp)
  simp only [List.length_nil, Nat.zero_add] at h1
  unfold readCE
  rw [if_neg (by omega), Int.toNat_natCast]
  unfold readCR
  rw [h1]
  dsimp only
  rw [if_neg (by simp), h2]
  dsimp only
  rw [if_neg (by simp)]
  simp [columnsE]
end Rcs
end Go.Proofs.Ytkgkppblkdihkaa

namespace Go.Proofs.Ytkgkppblkdihkaa
namespace Rcs
open Num

theorem rc_take {l : List Rc} {i : Nat} (h : i < l.length) : l.take (i + 1) = l.take i ++ [l.getD i default] := by
  rw [List.take_add_one, List.getElem?_eq_getElem h, List.getD_eq_getElem?_getD, List.getElem?_eq_getElem h]
  rfl
theorem weight_step {l : List Rc} {i : Nat} (h : i < l.length) : weightE (l.take (i + 1)) = weightE (l.take i) + 16 + (l.getD i default).src.length + (l.getD i default).text.length := by
  rw [rc_take h]
  unfold weightE
  rw [List.map_append, List.sum_append]
  simp
  omega
theorem weight_take (l : List Rc) (i : Nat) : weightE (l.take i) ≤ weightE l := by
  have : weightE l = weightE (l.take i) + weightE (l.drop i) := by
    conv => lhs; rw [← List.take_append_drop i l]
    unfold weightE
    rw [List.map_append, List.sum_append]
  omega
theorem weight_mem {l : List Rc} {r : Rc} (h : r ∈ l) : 16 + r.src.length + r.text.length ≤ weightE l := by
  unfold weightE
  induction l with
  | nil => simp at h
  | cons a t ih =>
    rw [List.map_cons, List.sum_cons]
    rcases List.mem_cons.1 h with rfl | h
    · omega
    · have := ih h; omega
theorem weight_len (l : List Rc) : 16 * l.length ≤ weightE l := by
  unfold weightE
  induction l with
  | nil => simp
  | cons a t ih => rw [List.map_cons, List.sum_cons, List.length_cons]; omega
/-- What the document counts; f: where it stops. -/
def wgtF : Nat → List Rc → Nat
  | sum, [] => sum
  | sum, r :: t => if 1099511627776 < sum ∨ 1099511627776 < r.src.length ∨ 1099511627776 < r.text.length then 2199023255552 else wgtF (sum + 16 + r.src.length + r.text.length) t
theorem wgt_is : ∀ (l : List Rc) (sum : Nat), wgtF sum l ≤ 1099511627776 → wgtF sum l = sum + weightE l
  | [], sum, _ => by simp [wgtF, weightE]
  | r :: t, sum, h => by
    rw [wgtF] at h ⊢
    by_cases h1 : 1099511627776 < sum ∨ 1099511627776 < r.src.length ∨ 1099511627776 < r.text.length
    · rw [if_pos h1] at h; omega
    · rw [if_neg h1] at h ⊢
      rw [wgt_is t _ h]
      unfold weightE
      rw [List.map_cons, List.sum_cons]
      omega
theorem wgt_le : ∀ (l : List Rc) (sum : Nat), sum ≤ 3298534883344 → wgtF sum l ≤ 3298534883344
  | [], sum, h => by rw [wgtF]; exact h
  | r :: t, sum, h => by
    rw [wgtF]
    split
    · omega
    · exact wgt_le t _ (by omega)
theorem wgt_step {l : List Rc} {i sum : Nat} (h : i < l.length) : wgtF sum (l.drop i) = if 1099511627776 < sum ∨ 1099511627776 < (l.getD i default).src.length ∨ 1099511627776 < (l.getD i default).text.length then 2199023255552 else wgtF (sum + 16 + (l.getD i default).src.length + (l.getD i default).text.length) (l.drop (i + 1)) := by
  rw [rc_drop h, wgtF]
/-- Is a log more than statements look at? -/
def greatE (l : List Rc) (records bytes : Int) : Bool := decide (records < (l.length : Int) ∨ bytes < (wgtF 0 l : Int))
theorem great_no {l : List Rc} {records bytes : Int} (h : greatE l records bytes = false) (hb : bytes ≤ 1099511627776) : (l.length : Int) ≤ records ∧ (weightE l : Int) ≤ bytes := by
  have h := of_decide_eq_false h
  have h1 : ¬ records < (l.length : Int) := fun e => h (.inl e)
  have h2 : ¬ bytes < (wgtF 0 l : Int) := fun e => h (.inr e)
  have := wgt_is l 0 (by omega)
  omega
end Rcs
end Go.Proofs.Ytkgkppblkdihkaa

