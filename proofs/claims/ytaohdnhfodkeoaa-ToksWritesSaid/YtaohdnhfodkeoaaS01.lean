/- Small facts that all proofs of a seat use: later worlds, slices of bytes, what a cut of a slice is. What arguments that came in read as: slices of bytes, and slices of those. Slices of bytes that a call has made itself, and what append makes of them. A block that is known whole. Worlds that differ in one block and one row at most; append and stores, told with where what they make lies. Tokens: slices of them that came in, and of the call's own. Tokens of bytes, and bytes of tokens, as values: the longest, the nearest; there and back. Plain mathematics of chapter 10. Pieces of tokens, there and back. Plain mathematics of chapter 11. Results: a row of cells in a block, and what a slot holds. The document's May and Play of chapter 10. The document's Split and Join of chapter 11. Are two rows of bytes the same? Bytes as strings. The contract of the document's Same, of bytes as strings. What the laws of chapter 10 ask of the program; the example; LzFinds, LzBack, LzPlays, LzMay. The program's lz.May, size, put, Play. Bits of bytes, numbers of bits, runs of bits 0: plain mathematics. Contracts of the library's LeadingZeros8 and of the row's zerosFrom. The program's pieces: the library's Len, halve, isMatch, lenBits, Split. Regions that draw their order, where one call stands behind all that is read: what is asked of the world holds till that call, not behind it. Regions that draw their order: an operation that asks nothing of the world may be taken at any time. -/
import Derived.Test.YtaohdnhfodkeoaaRows
import Derived.WalkKit
import Derived.WalkSpells
import Derived.WalkLawsBesides
import Derived.ProofKit
import Derived.OpenShut
import Derived.Deep.Slices
import Derived.Maps.AppendAt
import Derived.Deep.MidRow
import Derived.Laws.Rows
import Derived.Deep.Strs
import Derived.Laws.OwnMore
import Derived.Laws.ResultCell
import Derived.BigQuiet
import Derived.Deep.QuietTactic
import Derived.Lib.SlBytesConst
import Derived.Lib.BitFns
import Derived.OrdersHeld
import Derived.StillTail
import Derived.RegionTactic
namespace Go.Proofs.Ytaohdnhfodkeoaa
open Go.RowKit
theorem hide {p : Prop} (h : p) : Hid p := h
theorem ret_bool {a b : Bool} (h : a = b) : Ending.returned (.bool a) = .returned (.bool b) := by rw [h]
def Ext (w W : World) : Prop := Below w.heap.size w W
theorem Ext.refl (w : World) : Ext w w := Below.refl _ _
theorem Ext.trans {a b c : World} (h : Ext a b) (k : Ext b c) : Ext a c := Below.trans h (Below.mono k h.size)
theorem Ext.drew {a b : World} (h : Ext a b) : Ext a b.drew := Below.drew h
theorem Ext.drewN {a b : World} (h : Ext a b) (n : Nat) : Ext a (b.drewN n) := ⟨h.os, h.tape, h.output, h.size, h.block⟩
theorem Ext.alloc {a b : World} (h : Ext a b) (o : Obj) : Ext a (b.alloc o) := Below.alloc h h.size o
theorem Ext.setCell {a b : World} (h : Ext a b) {g i : Nat} (hg : a.heap.size ≤ g) (u : Value) : Ext a (b.setCell ⟨g, i, none⟩ u) := Below.setCell (p := ⟨g, i, none⟩) h hg u
theorem Ext.cell {a b : World} (h : Ext a b) {g i : Nat} (hp : g < a.heap.size) : b.cell? ⟨g, i, none⟩ = a.cell? ⟨g, i, none⟩ := Below.cell (p := ⟨g, i, none⟩) h hp
theorem Ext.le {a b : World} (h : Ext a b) : a.heap.size ≤ b.heap.size := h.size
theorem cellNew (w : World) (cs : Array Value) (t : TypeId) (fr : Nat × Nat) (i : Nat) : (w.alloc (.cells cs t fr)).cell? ⟨w.heap.size, i, none⟩ = cs[i]? := World.cell?_alloc_mark w cs t fr i
theorem belowNew (w : World) (o : Obj) : Below w.heap.size w (w.alloc o) := (Below.refl _ _).alloc (Nat.le_refl _) o
theorem extNew (w : World) (o : Obj) : Ext w (w.alloc o) := belowNew w o
def Bytes (w : World) (B : Nat) (A : Option Addr) (n : Nat) (l : List UInt8) : Prop :=
  l.length = n ∧ (n = 0 ∨ ∃ b off, A = some ⟨b, off, none⟩ ∧ b < B ∧ ∀ i, i < n → w.cell? ⟨b, off + i, none⟩ = some (.int .u8 ((l.getD i 0).toNat : Int)))
theorem Bytes.below {w w' : World} {B C : Nat} {A : Option Addr} {n : Nat} {l : List UInt8} (h : Bytes w B A n l) (hb : Below C w w') (hC : B ≤ C) : Bytes w' B A n l := by
  refine ⟨h.1, ?_⟩
  rcases h.2 with h0 | ⟨b, off, hA, hB, hc⟩
  · exact .inl h0
  · exact .inr ⟨b, off, hA, hB, fun i hi => by rw [hb.cell (p := ⟨b, off + i, none⟩) (Nat.lt_of_lt_of_le hB hC)]; exact hc i hi⟩
theorem Bytes.mono {w : World} {B C : Nat} {A : Option Addr} {n : Nat} {l : List UInt8} (h : Bytes w B A n l) (hC : B ≤ C) : Bytes w C A n l := by
  refine ⟨h.1, ?_⟩
  rcases h.2 with h0 | ⟨b, off, hA, hB, hc⟩
  · exact .inl h0
  · exact .inr ⟨b, off, hA, Nat.lt_of_lt_of_le hB hC, hc⟩
theorem Ext.bytes {a b : World} (h : Ext a b) {A : Option Addr} {n : Nat} {l : List UInt8} (hb : Bytes a a.heap.size A n l) : Bytes b b.heap.size A n l := (hb.below h (Nat.le_refl _)).mono h.size
theorem Bytes.none (w : World) (B : Nat) (A : Option Addr) : Bytes w B A 0 [] := ⟨rfl, .inl rfl⟩
def cutAt (A : Option Addr) (c k : Nat) : Option Addr := if c = k then A else A.map (·.add k)
theorem Bytes.drop {w : World} {B : Nat} {A : Option Addr} {n : Nat} {l : List UInt8} (h : Bytes w B A n l) {k c : Nat} (hk : k ≤ n) (hc : n ≤ c) : Bytes w B (cutAt A c k) (n - k) (l.drop k) := by
  refine ⟨by rw [List.length_drop, h.1], ?_⟩
  by_cases hkn : k = n
  · exact .inl (by omega)
  rcases h.2 with h0 | ⟨b, off, rfl, hB, hcell⟩
  · exact .inl (by omega)
  · refine .inr ⟨b, off + k, ?_, hB, fun i hi => ?_⟩
    · simp [cutAt, show ¬ c = k by omega, Addr.add]
    · rw [Nat.add_assoc, hcell (k + i) (by omega)]
      simp [List.getD_eq_getElem?_getD]
def byteCells (l : List UInt8) : Array Value := (l.map fun c => Value.int .u8 (c.toNat : Int)).toArray
theorem bytesNew (w : World) (l : List UInt8) (cs : Array Value) (t : TypeId) (fr : Nat × Nat) (h : cs = byteCells l) (n : Nat) (hn : l.length = n) :
    Bytes (w.alloc (.cells cs t fr)) (w.alloc (.cells cs t fr)).heap.size (some ⟨w.heap.size, 0, none⟩) n l := by
  subst h
  subst hn
  refine ⟨rfl, .inr ⟨w.heap.size, 0, rfl, by simp, fun i hi => ?_⟩⟩
  rw [Nat.zero_add, World.cell?_alloc_mark]
  simp [hi, byteCells]
theorem run_cut (W : World) (a : Option Addr) (n c : Nat) (k : IntKind) (l : Int) (h0 : 0 ≤ l) (h1 : l ≤ n) :
    (Instr.slice 40 (.slice a n c) (some (.int k l)) none none).run Try.prog W = .ok (.slice (cutAt a c l.toNat) (n - l.toNat) (c - l.toNat)) W := by
  rw [run_slice_l (P := Try.prog) (w := W) 40 a n c (by kernel_rfl) k l h0 h1]
  have hs : (sizeOf (Try.prog.elem 40)).run Try.prog W = .ok 1 W := by kernel_rfl
  rw [hs]
  simp [Result.andThen, sliced, cutAt]
end Go.Proofs.Ytaohdnhfodkeoaa

namespace Go.Proofs.Ytaohdnhfodkeoaa
open Go.ChangeShapes Go.WideShapes Go.ChangeAt Go.WideMaps Go.WideElems Go.RowKit
theorem own : ownKnob Try.prog.godebug = none := by kernel_rfl
theorem laidOut : laidOutB Try.prog = true := by kernel_rfl
theorem open_bytes_cs {H : Type} {enc : TypeId × Value → H} {W : World} {fuel : Nat} {cs : List Value} {x : DataW H × List MemPlace} (hf : DataW.trod enc Try.prog W 0 (fun _ => true) true fuel 40 cs = some x) :
    ∃ a n c, ∃ l : List UInt8, cs = [.slice a n c] ∧ n ≤ c ∧ c ≤ maxLen ∧ Bytes W W.heap.size a n l := by
  rcases open_ints Try.underlying40 Try.underlying5 (by kernel_rfl) hf with ⟨hcs, _⟩ | ⟨x, n, c, zs, hcs, _, hl, hm, hz, _, hcell, hwz⟩
  · exact ⟨none, 0, 0, [], hcs, by omega, by unfold maxLen; omega, Bytes.none _ _ _⟩
  · have hz' : zs.length = c := by simpa using hz
    refine ⟨some x, n, c, (zs.take n).map fun z => UInt8.ofNat z.toNat, hcs, hl, hm, by simp; omega, ?_⟩
    rcases Nat.eq_zero_or_pos n with h0 | h0
    · exact .inl h0
    obtain ⟨b, off, spot⟩ := x
    have hc0 := hcell 0 (by omega)
    have hspot : spot = none := by simpa [Addr.add] using World.cell?_spot hc0
    subst hspot
    refine .inr ⟨b, off, rfl, by simpa [Addr.add] using World.block_lt_of_cell? W _ hc0, fun i hi => ?_⟩
    have h1 := hcell i (by omega)
    have hr : 0 ≤ zs.getD i 0 ∧ zs.getD i 0 ≤ 255 := by
      have := range_u8 hwz i
      rwa [List.getD_eq_getElem?_getD]
    have e : ((((zs.take n).map fun z => UInt8.ofNat z.toNat).getD i 0).toNat : Int) = zs.getD i 0 := by
      have hi' : i < zs.length := by omega
      simp only [List.getD_eq_getElem?_getD, List.getElem?_map, List.getElem?_take, if_pos hi, List.getElem?_eq_getElem hi', Option.map_some, Option.getD_some] at hr ⊢
      rw [UInt8.toNat_ofNat']
      omega
    rw [e]
    have hadd : (⟨b, off, none⟩ : Addr).add i = ⟨b, off + i, none⟩ := by unfold Addr.add; split <;> simp_all
    rwa [hadd] at h1
theorem open_bytes {H : Type} {enc : TypeId × Value → H} {W : World} {a : Option Addr} {n c : Nat} {d : DataW H} {p : List MemPlace} (h : DataW.Trod enc Try.prog W 0 (fun _ => true) true 40 (.slice a n c) d p) :
    ∃ l : List UInt8, n ≤ c ∧ c ≤ maxLen ∧ Bytes W W.heap.size a n l := by
  obtain ⟨fuel, hf⟩ := h
  obtain ⟨a', n', c', l, hcs, h1, h2, h3⟩ := open_bytes_cs hf
  simp [Value.cells] at hcs
  obtain ⟨rfl, rfl, rfl⟩ := hcs
  exact ⟨l, h1, h2, h3⟩
end Go.Proofs.Ytaohdnhfodkeoaa

namespace Go.Proofs.Ytaohdnhfodkeoaa
open Go.RowKit
def byteV (c : UInt8) : Value := .int .u8 (c.toNat : Int)
def OwnB (w : World) (base : Nat) (v : Value) (l : List UInt8) : Prop := w.ownsRow base 5 1 v l.length (l.map byteV)
theorem byte_info : (Try.prog.info? 5).map (fun i => (i.zero, i.size, i.bytes)) = some (some (.int .u8 0), 1, 1) := by kernel_rfl
theorem OwnB.nil (w : World) (base : Nat) : OwnB w base (.slice none 0 0) [] := World.ownsRow_nil w base _ _
theorem Ext.grown {w w' : World} (h : Ext w w') (row : Option Nat) : w.grownBy w' row := ⟨h.os, h.tape, h.output, h.size, fun i hi _ => h.block i hi⟩
theorem OwnB.empty (w : World) {base : Nat} (h : base ≤ w.heap.size) : OwnB (w.alloc (.cells #[] 5)) base (.slice (some ⟨w.heap.size, 0, none⟩) 0 0) [] :=
  World.ownsRow_made (size := 1) w #[] 0 h (by unfold maxLen; omega) (by simp)
theorem OwnB.ext {w w' : World} {base : Nat} {v : Value} {l : List UInt8} (h : OwnB w base v l) (hE : Ext w w') : OwnB w' base v l :=
  World.ownsRow.kept h (hE.grown none) (by cases hv : v.ownBlock <;> simp)
theorem OwnB.form {w : World} {base : Nat} {v : Value} {l : List UInt8} (h : OwnB w base v l) :
    ∃ A c, v = .slice A l.length c ∧ l.length ≤ c ∧ c ≤ maxLen ∧ Bytes w w.heap.size A l.length l := by
  have hl := h.lt
  rcases h.2 with ⟨rfl, h0⟩ | ⟨g, cap, cur, rfl, hb, hg, hn, hc, hs, ht⟩
  · exact ⟨none, 0, by rw [h0], by omega, by unfold maxLen; omega, rfl, .inl h0⟩
  · refine ⟨_, cap, rfl, hn, hc, rfl, .inr ⟨g, 0, rfl, (hl g rfl).2, fun i hi => ?_⟩⟩
    have hk := World.ownsRow.cellAt h i (by omega)
    rw [Nat.zero_add, hk]
    simp [byteV, hi]
theorem OwnB.form' {w : World} {base : Nat} {v : Value} {l : List UInt8} (h : OwnB w base v l) : ∃ A n c, v = .slice A n c ∧ n ≤ c ∧ n ≤ l.length ∧ Bytes w w.heap.size A n l := by
  obtain ⟨A, c, hv, hc, _, hb⟩ := h.form
  exact ⟨A, _, c, hv, hc, Nat.le_refl _, hb⟩
theorem OwnB.mono {w : World} {base base' : Nat} {v : Value} {l : List UInt8} (h : OwnB w base v l) (hb : base' ≤ base) : OwnB w base' v l :=
  ⟨h.1, h.2.elim Or.inl fun ⟨g, cap, cur, hv, hg, r⟩ => Or.inr ⟨g, cap, cur, hv, Nat.le_trans hb hg, r⟩⟩
theorem run_append_zero (w : World) (ty : TypeId) (base : Nat) (v : Value) (l : List UInt8) (hown : OwnB w base v l) (A : Option Addr) (c : Nat) :
    (Builtin.append_ #[40, 40] ty #[v, .slice A 0 c]).run Try.prog w = .ok v w := by
  obtain ⟨i, hi, _, _, _⟩ := info_parts byte_info
  rcases hown.2 with ⟨rfl, _⟩ | ⟨g, cap, cur, rfl, _, _, hnc, _⟩
  · cases A <;> simp [Builtin.append_, run_underlying Try.underlying40, sizeOf, typeInfo, hi, Builtin.lenOf, Builtin.firstCells, loadCells, loadCellsFrom]
  · cases A <;> simp [Builtin.append_, run_underlying Try.underlying40, sizeOf, typeInfo, hi, Builtin.lenOf, Builtin.firstCells, loadCells, loadCellsFrom, hnc, storeCells]
theorem OwnB.formG {w : World} {base : Nat} {v : Value} {l : List UInt8} (h : OwnB w base v l) (hl : 0 < l.length) : ∃ g c, v = .slice (some ⟨g, 0, none⟩) l.length c ∧ base ≤ g ∧ l.length ≤ c := by
  rcases h.2 with ⟨_, h0⟩ | ⟨g, cap, _, rfl, hb, _, hn, _⟩
  · omega
  · exact ⟨g, cap, rfl, hb, hn⟩
theorem OwnB.cell {w : World} {base g n c : Nat} {l : List UInt8} (h : OwnB w base (.slice (some ⟨g, 0, none⟩) n c) l) {i : Nat} (hi : i < l.length) :
    w.cell? ⟨g, i, none⟩ = some (.int .u8 ((l.getD i 0).toNat : Int)) ∧ w.frozen? ⟨g, i, none⟩ = false := by
  have hn : n = l.length := by
    rcases h.2 with ⟨h', _⟩ | ⟨_, _, _, h', _⟩
    · simp at h'
    · simp only [Value.slice.injEq] at h'; exact h'.2.1
  subst hn
  refine ⟨?_, World.ownsRow.frozenAt h i⟩
  rw [World.ownsRow.cellAt h i (by omega)]
  simp [byteV, hi]
theorem OwnB.set {w : World} {base g n c : Nat} {l : List UInt8} (h : OwnB w base (.slice (some ⟨g, 0, none⟩) n c) l) (i : Nat) (x : UInt8) :
    OwnB (w.setCell ⟨g, i, none⟩ (.int .u8 (x.toNat : Int))) base (.slice (some ⟨g, 0, none⟩) n c) (l.set i x) := by
  have hn : n = l.length := by
    rcases h.2 with ⟨h', _⟩ | ⟨_, _, _, h', _⟩
    · simp at h'
    · simp only [Value.slice.injEq] at h'; exact h'.2.1
  subst hn
  have := (World.ownsRow.stored h i (byteV x)).1
  unfold OwnB
  rw [List.length_set, List.map_set]
  exact this
theorem app_run {w : World} (ty : TypeId) {base : Nat} {v : Value} {l : List UInt8} (hown : OwnB w base v l) {A : Option Addr} {m : Nat} {k : List UInt8} (c : Nat) (hb : Bytes w w.heap.size A m k)
    (hlen : l.length + m ≤ 140737488355328) (hbase : base ≤ w.heap.size) :
    ∃ v' w', (Builtin.append_ #[40, 40] ty #[v, .slice A m c]).run Try.prog w = .ok v' w' ∧ OwnB w' base v' (l ++ k) ∧ w.grownBy w' v.ownBlock := by
  obtain ⟨hk, hb⟩ := hb
  rcases hb with rfl | ⟨b, off, rfl, hB, hc⟩
  · obtain rfl := List.eq_nil_of_length_eq_zero hk
    exact ⟨v, w, run_append_zero w ty base v l hown A c, by simpa using hown, World.grownBy.refl w _⟩
  · obtain ⟨i, hi, hz, hs, hby⟩ := info_parts byte_info
    obtain ⟨v', w', hr, h2, h3, _⟩ := run_append_own (P := Try.prog) w base 40 ty 5 i _ 1 1 Try.underlying40 hi hz hs hby rfl (by omega) v l.length (l.map byteV) hown
      ⟨b, off, none⟩ m c (k.map byteV) (by simpa using hk) (by
        intro j u hu
        have hj : j < m := by
          rcases Nat.lt_or_ge j m with h | h
          · exact h
          · rw [List.getElem?_eq_none (by simp; omega)] at hu; cases hu
        have hadd : (⟨b, off, none⟩ : Addr).add j = ⟨b, off + j, none⟩ := by unfold Addr.add; split <;> simp_all
        rw [hadd, hc j hj]
        rw [List.getElem?_map, List.getElem?_eq_getElem (by omega)] at hu
        rw [List.getD_eq_getElem?_getD, List.getElem?_eq_getElem (by omega)]
        simpa [byteV] using hu) (by
        intro u hu
        obtain ⟨x, _, rfl⟩ := List.mem_map.1 hu
        rfl) (by unfold maxLen; omega) (by omega) hbase
    refine ⟨v', w', hr, ?_, h3⟩
    unfold OwnB
    rw [List.length_append, hk, List.map_append]
    exact h2
theorem wp_app {o : Oper} {a : Act} {K : Act → World → Prop} {Q : Exit → Act → World → Prop} {w : World} (s x : Operand)
    (ho : o.op = .call { callee := .builtin .append, args := #[s, x], argTypes := #[40, 40] }) {base : Nat} {v : Value} {l : List UInt8} (hs : a.eval s = v) (hown : OwnB w base v l)
    {A : Option Addr} {m c : Nat} {k : List UInt8} (hx : a.eval x = .slice A m c) (hb : Bytes w w.heap.size A m k) (hlen : l.length + m ≤ 140737488355328) (hbase : base ≤ w.heap.size)
    (h : ∀ v' w', OwnB w' base v' (l ++ k) → w.grownBy w' v.ownBlock → K (a.put o.dst v') w') : o.wp Try.prog a w K Q := by
  obtain ⟨v', w', hr, h2, h3⟩ := app_run o.type hown c hb hlen hbase
  unfold Oper.wp execOp
  simp only [ho, resolve, invoke, builtin, Sem.run_bind, Sem.run_pure, Result.andThen_ok, List.map_toArray, List.map_cons, List.map_nil, hs, hx, hr]
  exact h v' w' h2 h3
theorem wpList_app {ops : Array Oper} {rest : List Oper} {o : Oper} {a : Act} {Q : Exit → Act → World → Prop} {w : World} (hgd : o.guard = none) (s x : Operand)
    (ho : o.op = .call { callee := .builtin .append, args := #[s, x], argTypes := #[40, 40] }) {base : Nat} {v : Value} {l : List UInt8} (hs : a.eval s = v) (hown : OwnB w base v l)
    {A : Option Addr} {m c : Nat} {k : List UInt8} (hx : a.eval x = .slice A m c) (hb : Bytes w w.heap.size A m k) (hlen : l.length + m ≤ 140737488355328) (hbase : base ≤ w.heap.size)
    (h : ∀ v' w', OwnB w' base v' (l ++ k) → w.grownBy w' v.ownBlock → wpList Try.prog ops Q rest (a.put o.dst v') w') : wpList Try.prog ops Q (o :: rest) a w :=
  wpList_plain hgd fun _ hK => wp_app s x ho hs hown hx hb hlen hbase fun v' w' h2 h3 => hK _ _ (h v' w' h2 h3)
def MadeB (w : World) (l : List UInt8) (e : Ending) (w' : World) : Prop := ∃ v, e = .returned v ∧ OwnB w' w.heap.size v l ∧ Ext w w'
theorem OwnB.below {w0 w w' : World} {base : Nat} {v : Value} {l : List UInt8} (h : OwnB w base v l) (hb : Below base w0 w) (hg : w.grownBy w' v.ownBlock) (hbase : base ≤ w.heap.size) : Below base w0 w' :=
  hb.grown hg hbase fun k hk => (h.lt k hk).1
end Go.Proofs.Ytaohdnhfodkeoaa

namespace Go.Proofs.Ytaohdnhfodkeoaa
open Go.RowKit
def Whole (w : World) (g : Nat) (t : TypeId) (cs : Array Value) : Prop := w.heap[g]? = some (.cells cs t (0, 0))
section
variable {w W : World} {g : Nat} {t : TypeId} {cs : Array Value}
theorem Whole.lt (h : Whole w g t cs) : g < w.heap.size := (Array.getElem?_eq_some_iff.1 h).1
theorem Whole.cell (h : Whole w g t cs) (i : Nat) : w.cell? ⟨g, i, none⟩ = cs[i]? := cell_of_row w g i cs t (0, 0) h
theorem Whole.frozen (h : Whole w g t cs) (i : Nat) : w.frozen? ⟨g, i, none⟩ = false := frozen_of_row w g i cs t h
theorem Whole.new (w : World) (t : TypeId) (cs : Array Value) : Whole (w.alloc (.cells cs t)) w.heap.size t cs := heap_alloc_new w _
theorem Whole.alloc (h : Whole w g t cs) (o : Obj) : Whole (w.alloc o) g t cs := (Below.heap_alloc w o g h.lt).trans h
theorem Whole.set (h : Whole w g t cs) (i : Nat) (u : Value) : Whole (w.setCell ⟨g, i, none⟩ u) g t (cs.setIfInBounds i u) := heap_setCell_same w g i cs t u h
theorem Whole.far (h : Whole w g t cs) {b : Nat} (hb : g ≠ b) (i : Nat) (u : Value) : Whole (w.setCell ⟨b, i, none⟩ u) g t cs := (Below.heap_setCell w ⟨b, i, none⟩ u g hb).trans h
theorem Whole.ext (h : Whole w g t cs) (hE : Ext w W) : Whole W g t cs := (hE.block g h.lt).trans h
theorem Whole.below {B : Nat} (h : Whole w g t cs) (hE : Below B w W) (hg : g < B) : Whole W g t cs := (hE.block g hg).trans h
theorem Whole.grown (h : Whole w g t cs) {b : Nat} (hE : w.grownBy W (some b)) (hb : g ≠ b) : Whole W g t cs := (hE.block g h.lt (by simpa using hb)).trans h
end
theorem setCells_grown (g : Nat) : ∀ (vs : List Value) (o : Nat) (w : World), w.grownBy (w.setCells g o vs) (some g) ∧ (w.setCells g o vs).heap.size = w.heap.size
  | [], _, w => ⟨World.grownBy.refl w _, rfl⟩
  | v :: r, o, w => by
    have h1 : w.grownBy (w.setCell ⟨g, o, none⟩ v) (some g) := ⟨rfl, rfl, rfl, by simp, fun k _ hk => Below.heap_setCell w ⟨g, o, none⟩ v k (fun e => hk (by rw [e]))⟩
    obtain ⟨h2, h3⟩ := setCells_grown g r (o + 1) (w.setCell ⟨g, o, none⟩ v)
    exact ⟨h1.trans h2, by show ((w.setCell ⟨g, o, none⟩ v).setCells g (o + 1) r).heap.size = _; rw [h3]; simp⟩
theorem Whole.setCells {g : Nat} {t : TypeId} : ∀ (vs : List Value) (o : Nat) (w : World) (cs : Array Value), Whole w g t cs → o + vs.length ≤ cs.size →
    ∃ cs', Whole (w.setCells g o vs) g t cs' ∧ cs'.size = cs.size ∧ (∀ i, i < o → cs'[i]? = cs[i]?) ∧ ∀ j, j < vs.length → cs'[o + j]? = vs[j]?
  | [], _, _, cs, h, _ => ⟨cs, h, rfl, fun _ _ => rfl, fun j hj => by simp at hj⟩
  | v :: r, o, w, cs, h, hl => by
    simp only [List.length_cons] at hl
    obtain ⟨cs', h1, h2, h3, h4⟩ := Whole.setCells r (o + 1) (w.setCell ⟨g, o, none⟩ v) _ (h.set o v) (by simp; omega)
    refine ⟨cs', h1, by simpa using h2, fun i hi => by rw [h3 i (by omega), Array.getElem?_setIfInBounds_ne (by omega)], fun j hj => ?_⟩
    rcases j with _ | j
    · rw [Nat.add_zero, h3 o (by omega), Array.getElem?_setIfInBounds_self_of_lt (by omega)]
      rfl
    · rw [show o + (j + 1) = o + 1 + j by omega, h4 j (by simpa using hj)]
      rfl
theorem Whole.storeAll {w : World} {g : Nat} {t : TypeId} {cs cells : Array Value} (h : Whole w g t cs) (hs : cells.size = cs.size) : Whole (w.setCells g 0 cells.toList) g t cells := by
  obtain ⟨cs', h1, h2, _, h4⟩ := Whole.setCells cells.toList 0 w cs h (by simp [hs])
  have : cs' = cells := by
    apply Array.ext_getElem?
    intro i
    by_cases hi : i < cells.size
    · have := h4 i (by simpa using hi)
      rw [Nat.zero_add] at this
      rw [this]; simp
    · rw [Array.getElem?_eq_none (by omega), Array.getElem?_eq_none (by omega)]
  rwa [this] at h1
theorem wpList_storeW {P : Program} {ops : Array Oper} {rest : List Oper} {op : Oper} {a : Act} {w : World} {Q : Exit → Act → World → Prop} (hgd : op.guard = none) (ty : TypeId) (x y : Operand) (ho : op.op = .store ty x y)
    {g : Nat} {t : TypeId} {cs cells : Array Value} (hx : a.eval x = .pointer (some ⟨g, 0, none⟩)) (hy : a.eval y = .agg cells) (hw : Whole w g t cs) (hs : cells.size = cs.size)
    (hi : (P.info? ty).map (·.size) = some cells.size) (h1 : cells.all (·.oneCell') = true)
    (h : ∀ w', Whole w' g t cells → w.grownBy w' (some g) → w'.heap.size = w.heap.size → wpList P ops Q rest (a.put op.dst undef) w') : wpList P ops Q (op :: rest) a w := by
  refine wpList_store_mid hgd ty x y ho g 0 cells hx hy (fun j hj => ?_) hi h1 (h _ (hw.storeAll hs) (setCells_grown g _ _ _).1 (setCells_grown g _ _ _).2)
  rw [Nat.zero_add]
  refine ⟨?_, hw.frozen j⟩
  rw [hw.cell j, Array.getElem?_eq_getElem (by omega)]
  rfl
end Go.Proofs.Ytaohdnhfodkeoaa

namespace Go.Proofs.Ytaohdnhfodkeoaa
open Go.RowKit
theorem ret_i64 {a b : Int} (h : a = b) : Ending.returned (.int .i64 a) = .returned (.int .i64 b) := by rw [h]
structure Mod (w w' : World) (g : Nat) (ob : Option Nat) : Prop where
  os : w'.os = w.os
  tape : w'.tape = w.tape
  output : w'.output = w.output
  size : w.heap.size ≤ w'.heap.size
  block : ∀ k, k < w.heap.size → k ≠ g → some k ≠ ob → w'.heap[k]? = w.heap[k]?
def NewOb (w : World) (ob ob' : Option Nat) : Prop := ob' = ob ∨ ∃ n, ob' = some n ∧ w.heap.size ≤ n
theorem NewOb.same (w : World) (ob : Option Nat) : NewOb w ob ob := .inl rfl
theorem NewOb.trans {a b : World} {o1 o2 o3 : Option Nat} (h : NewOb a o1 o2) (hs : a.heap.size ≤ b.heap.size) (k : NewOb b o2 o3) : NewOb a o1 o3 := by
  rcases k with rfl | ⟨n, rfl, hn⟩
  · exact h
  · exact .inr ⟨n, rfl, by omega⟩
theorem NewOb.ne {w : World} {ob ob' : Option Nat} (h : NewOb w ob ob') {g : Nat} (hg : g < w.heap.size) (ho : ob ≠ some g) : ob' ≠ some g := by
  rcases h with rfl | ⟨n, rfl, hn⟩
  · exact ho
  · intro e
    injection e with e
    omega
theorem NewOb.le {w : World} {ob ob' : Option Nat} (h : NewOb w ob ob') {b : Nat} (hb : b ≤ w.heap.size) (ho : ∀ k, ob = some k → b ≤ k) : ∀ k, ob' = some k → b ≤ k := by
  rcases h with rfl | ⟨n, rfl, hn⟩
  · exact ho
  · intro k e
    injection e with e
    omega
section
variable {a b c w w' : World} {g : Nat} {ob ob' : Option Nat}
theorem Mod.refl (w : World) (g : Nat) (ob : Option Nat) : Mod w w g ob := ⟨rfl, rfl, rfl, Nat.le_refl _, fun _ _ _ _ => rfl⟩
theorem Mod.trans (h : Mod a b g ob) (k : Mod b c g ob') (ho : NewOb a ob ob') : Mod a c g ob :=
  ⟨k.os.trans h.os, k.tape.trans h.tape, k.output.trans h.output, Nat.le_trans h.size k.size, fun i hi hg hb =>
    (k.block i (Nat.lt_of_lt_of_le hi h.size) hg (fun e => ho.ne hi (fun e' => hb e'.symm) e.symm)).trans (h.block i hi hg hb)⟩
theorem Mod.ofRow (h : w.grownBy w' (some g)) : Mod w w' g ob := ⟨h.os, h.tape, h.output, h.size, fun k hk hg _ => h.block k hk (fun e => hg (by injection e))⟩
theorem Mod.ofOwn (h : w.grownBy w' ob) : Mod w w' g ob := ⟨h.os, h.tape, h.output, h.size, fun k hk _ ho => h.block k hk ho⟩
theorem Mod.ofExt (h : Ext w w') : Mod w w' g ob := ⟨h.os, h.tape, h.output, h.size, fun k hk _ _ => h.block k hk⟩
theorem Mod.drew (w : World) : Mod w w.drew g ob := Mod.ofExt (Ext.refl w).drew
theorem Mod.below (h : Mod a b g ob) {B : Nat} (hB : B ≤ a.heap.size) (hg : B ≤ g) (ho : ∀ k, ob = some k → B ≤ k) : Below B a b :=
  ⟨h.os, h.tape, h.output, h.size, fun k hk => h.block k (by omega) (by omega) (fun e => by have := ho k e.symm; omega)⟩
theorem Mod.whole (h : Mod w w' g ob) {x : Nat} {t : TypeId} {cs : Array Value} (hw : Whole w x t cs) (hg : x ≠ g) (ho : ob ≠ some x) : Whole w' x t cs := (h.block x hw.lt hg (fun e => ho e.symm)).trans hw
theorem Mod.own (h : Mod w w' g ob) {base : Nat} {v : Value} {l : List UInt8} (hv : OwnB w base v l) (hg : v.ownBlock ≠ some g) (ho : v.ownBlock = none ∨ v.ownBlock ≠ ob) : OwnB w' base v l := by
  refine ⟨hv.1, ?_⟩
  rcases hv.2 with hn | ⟨x, cap, cur, rfl, hb, hgg, rest⟩
  · exact .inl hn
  · refine .inr ⟨x, cap, cur, rfl, hb, ?_, rest⟩
    rw [h.block x (Array.getElem?_eq_some_iff.1 hgg).1 (by intro e; subst e; simp [Value.ownBlock] at hg) (by
      intro e
      rcases ho with ho | ho
      · simp [Value.ownBlock] at ho
      · exact ho (by simpa [Value.ownBlock] using e))]
    exact hgg
end
theorem OwnB.far {w : World} {base g : Nat} {v : Value} {l : List UInt8} (h : OwnB w base v l) (hg : v.ownBlock ≠ some g) (i : Nat) (u : Value) : OwnB (w.setCell ⟨g, i, none⟩ u) base v l :=
  (Mod.ofRow (ob := none) (show w.grownBy (w.setCell ⟨g, i, none⟩ u) (some g) from ⟨rfl, rfl, rfl, by simp, fun k _ hk => Below.heap_setCell w ⟨g, i, none⟩ u k (fun e => hk (by rw [e]))⟩)).own h hg (by cases v.ownBlock <;> simp)
theorem grown_setCell (w : World) (g i : Nat) (u : Value) : w.grownBy (w.setCell ⟨g, i, none⟩ u) (some g) := ⟨rfl, rfl, rfl, by simp, fun k _ hk => Below.heap_setCell w ⟨g, i, none⟩ u k (fun e => hk (by rw [e]))⟩
theorem app_run_at {w : World} (ty : TypeId) {base : Nat} {v : Value} {l : List UInt8} (hown : OwnB w base v l) {A : Option Addr} {m : Nat} {k : List UInt8} (c : Nat) (hb : Bytes w w.heap.size A m k)
    (hlen : l.length + m ≤ 140737488355328) (hbase : base ≤ w.heap.size) :
    ∃ v' w', (Builtin.append_ #[40, 40] ty #[v, .slice A m c]).run Try.prog w = .ok v' w' ∧ OwnB w' base v' (l ++ k) ∧ w.grownBy w' v.ownBlock ∧ NewOb w v.ownBlock v'.ownBlock := by
  obtain ⟨hk, hb⟩ := hb
  rcases hb with rfl | ⟨b, off, rfl, hB, hc⟩
  · obtain rfl := List.eq_nil_of_length_eq_zero hk
    exact ⟨v, w, run_append_zero w ty base v l hown A c, by simpa using hown, World.grownBy.refl w _, .inl rfl⟩
  · obtain ⟨i, hi, hz, hs, hby⟩ := info_parts byte_info
    obtain ⟨v', w', hr, h2, h3, _, h5⟩ := run_append_own_at (P := Try.prog) w base 40 ty 5 i _ 1 1 Try.underlying40 hi hz hs hby rfl (by omega) v l.length (l.map byteV) hown
      ⟨b, off, none⟩ m c (k.map byteV) (by simpa using hk) (by
        intro j u hu
        have hj : j < m := by
          rcases Nat.lt_or_ge j m with h | h
          · exact h
          · rw [List.getElem?_eq_none (by simp; omega)] at hu; cases hu
        have hadd : (⟨b, off, none⟩ : Addr).add j = ⟨b, off + j, none⟩ := by unfold Addr.add; split <;> simp_all
        rw [hadd, hc j hj]
        rw [List.getElem?_map, List.getElem?_eq_getElem (by omega)] at hu
        rw [List.getD_eq_getElem?_getD, List.getElem?_eq_getElem (by omega)]
        simpa [byteV] using hu) (by
        intro u hu
        obtain ⟨x, _, rfl⟩ := List.mem_map.1 hu
        rfl) (by unfold maxLen; omega) (by omega) hbase
    refine ⟨v', w', hr, ?_, h3, h5.imp id fun h => ⟨_, h, Nat.le_refl _⟩⟩
    unfold OwnB
    rw [List.length_append, hk, List.map_append]
    exact h2
theorem zeroCells_byte (n : Nat) : Builtin.zeroCells (Value.int .u8 0).cells n = ((List.replicate n (0 : UInt8)).map byteV).toArray := by
  apply Array.ext
  · rw [size_zeroCells]; simp [Value.cells]
  · intro i h1 h2
    simp [Builtin.zeroCells, Value.cells, byteV, Nat.mod_one]
theorem app_zero_run {w : World} (ty : TypeId) {base : Nat} {v : Value} {l : List UInt8} (hown : OwnB w base v l) (n : Nat) (hlen : l.length + n ≤ 140737488355328) (hbase : base ≤ w.heap.size) :
    ∃ v' w', (Builtin.append_ #[40, 3] ty #[v, .int .i64 n]).run Try.prog w = .ok v' w' ∧ OwnB w' base v' (l ++ List.replicate n 0) ∧ w.grownBy w' v.ownBlock ∧ NewOb w v.ownBlock v'.ownBlock := by
  obtain ⟨i, hi, hz, hs, hby⟩ := info_parts byte_info
  have hw : IntKind.i64.wrap (n : Int) = n := by rw [IntKind.wrap_i64]; omega
  have hneg : ¬ ((n : Int) < 0) := by omega
  have hw0 : IntKind.i64.wrap 0 = 0 := by rw [IntKind.wrap_i64]; omega
  have h48i : ¬ (281474976710656 < (n : Int)) := by omega
  have hsz : Try.prog.info? 5 = some i := hi
  -- what the growing arm leaves
  have grown : ∀ (old : Nat), old < l.length + n → ∀ (row : Option Nat),
      OwnB (w.drew.alloc (.cells ((l.map byteV).toArray ++ Builtin.zeroCells (Value.int .u8 0).cells n ++ Builtin.zeroCells (Value.int .u8 0).cells (grownCap w (l.length + n) old 5 - (l.length + n))) 5)) base
        (.slice (some ⟨w.heap.size, 0, none⟩) (l.length + n) (grownCap w (l.length + n) old 5)) (l ++ List.replicate n 0) ∧
      w.grownBy (w.drew.alloc (.cells ((l.map byteV).toArray ++ Builtin.zeroCells (Value.int .u8 0).cells n ++ Builtin.zeroCells (Value.int .u8 0).cells (grownCap w (l.length + n) old 5 - (l.length + n))) 5)) row := by
    intro old ho row
    have hge := grownCap_ge w (l.length + n) old 5
    have hcm : grownCap w (l.length + n) old 5 ≤ maxLen := grownCap_le_maxLen w (l.length + n) old 5 (by unfold maxLen; omega)
    refine ⟨?_, ⟨rfl, rfl, rfl, by simp, fun k hk _ => Below.heap_alloc w.drew _ k hk⟩⟩
    unfold OwnB
    rw [List.length_append, List.length_replicate]
    refine ⟨by simp, .inr ⟨w.heap.size, _, _, rfl, hbase, heap_alloc_new w.drew _, hge, hcm, ?_, ?_⟩⟩
    · simp only [Array.size_append, size_zeroCells]
      simp [Value.cells]
      omega
    · rw [zeroCells_byte n, List.map_append]
      simp only [Array.toList_append, Nat.mul_one]
      rw [List.take_append_of_le_length (by simp), List.take_of_length_le (by simp)]
  rcases hown.2 with ⟨rfl, h0⟩ | ⟨g, cap, cur, rfl, hbg, hg, hnc, hcm, hcs, htake⟩
  · have hl : l = [] := List.eq_nil_of_length_eq_zero h0
    subst hl
    by_cases hn : n = 0
    · subst hn
      refine ⟨.slice none 0 0, w, ?_, by simpa using hown, World.grownBy.refl w _, .inl rfl⟩
      simp [Builtin.append_, run_underlying Try.underlying40, run_underlying Try.underlying3, sizeOf, typeInfo, hsz, asInt, asIntOf, hby, hw0]
    · have h48' : ¬ (281474976710656 < Builtin.nextslicecap n 0) := by rw [nextslicecap_zero (by omega)]; omega
      have h63' : ¬ (9223372036854775807 < (n : Int)) := by omega
      have hgr := grown 0 (by simp; omega) (Value.ownBlock (.slice none 0 0))
      simp only [List.length_nil, Nat.zero_add, List.map_nil, List.nil_append, Array.empty_append] at hgr ⊢
      refine ⟨_, _, ?_, hgr.1, hgr.2, .inr ⟨_, rfl, Nat.le_refl _⟩⟩
      simp [Builtin.append_, run_underlying Try.underlying40, run_underlying Try.underlying3, sizeOf, typeInfo, zeroValue, hsz, hz, asInt, asIntOf, hs, hby, hw, hneg, h48i, hn, h48', h63', Question.forced, run_firstCells_none, newRow, grownCap]
  · by_cases hroom : l.length + n ≤ cap
    · by_cases hn : n = 0
      · subst hn
        refine ⟨_, w, ?_, by simpa using hown, World.grownBy.refl w _, .inl rfl⟩
        simp [Builtin.append_, run_underlying Try.underlying40, run_underlying Try.underlying3, sizeOf, typeInfo, hsz, asInt, asIntOf, hw0, hnc, storeCells]
      have hst := run_storeCells_at Try.prog g l.length 5 ((List.replicate n (0 : UInt8)).map byteV) 0 cur w hg (by simp; omega) (by
        intro u hu
        obtain ⟨x, _, rfl⟩ := List.mem_map.1 hu
        rfl)
      have hsr := setRow_heap w g cur ((cur.toList.take (l.length + 0) ++ (List.replicate n (0 : UInt8)).map byteV ++ cur.toList.drop (l.length + 0 + ((List.replicate n (0 : UInt8)).map byteV).length)).toArray) _ _ hg
      have hzc : (Builtin.zeroCells (Value.int .u8 0).cells n).toList = (List.replicate n (0 : UInt8)).map byteV := by rw [zeroCells_byte]
      refine ⟨.slice (some ⟨g, 0, none⟩) (l.length + n) cap, w.setRow g ((cur.toList.take (l.length + 0) ++ (List.replicate n (0 : UInt8)).map byteV ++ cur.toList.drop (l.length + 0 + ((List.replicate n (0 : UInt8)).map byteV).length)).toArray), ?_, ?_,
        ⟨rfl, rfl, rfl, by simp, fun k _ hk => setRow_other w g k _ (fun e => hk (by simp [Value.ownBlock, e]))⟩, .inl rfl⟩
      · simp [Builtin.append_, run_underlying Try.underlying40, run_underlying Try.underlying3, sizeOf, typeInfo, zeroValue, hsz, hz, asInt, asIntOf, hs, hby, hw, hneg, h48i, hn, hroom, Addr.add_lit, hzc, -List.map_replicate]
        rw [hst]
        simp [-List.map_replicate]
      · unfold OwnB
        rw [List.length_append, List.length_replicate]
        refine ⟨by simp, .inr ⟨g, cap, _, rfl, hbg, hsr, hroom, hcm, ?_, ?_⟩⟩
        · simp; omega
        · rw [Nat.mul_one] at htake
          rw [Nat.add_zero, htake, List.map_append, Nat.mul_one]
          rw [List.take_append_of_le_length (by simp), List.take_of_length_le (by simp)]
    · have hlo : (l.map byteV).length = l.length * i.size := by rw [hs]; simp
      have hfo := run_firstCells_some (P := Try.prog) w.drew i.size l.length ⟨g, 0, none⟩ l.length cap (l.map byteV) hlo (by simpa using hown.cells (g := g) rfl)
      have hgr := grown cap (by omega) (Value.ownBlock (.slice (some ⟨g, 0, none⟩) l.length cap))
      have hn : n ≠ 0 := by omega
      have h63' : ¬ (9223372036854775807 < ((l.length : Int) + (n : Int))) := by omega
      have h48' : ¬ (281474976710656 < Builtin.nextslicecap (l.length + n) cap) := by
        have := growslice_fits (need := l.length + n) (old := cap) (bytes := 1) (by omega) (by omega)
        omega
      refine ⟨_, _, ?_, hgr.1, hgr.2, .inr ⟨_, rfl, Nat.le_refl _⟩⟩
      simp [Builtin.append_, run_underlying Try.underlying40, run_underlying Try.underlying3, sizeOf, typeInfo, zeroValue, hsz, hz, asInt, asIntOf, hs, hby, hw, hneg, h48i, hn, hroom, h63', h48', Question.forced, newRow, grownCap]
      rw [hs] at hfo
      simp [hfo]
section
variable {o : Oper} {a : Act} {K : Act → World → Prop} {Q : Exit → Act → World → Prop} {w : World} {base : Nat} {v : Value} {l : List UInt8}
theorem wp_appAt (s x : Operand) (ho : o.op = .call { callee := .builtin .append, args := #[s, x], argTypes := #[40, 40] }) (hs : a.eval s = v) (hown : OwnB w base v l)
    {A : Option Addr} {m c : Nat} {k : List UInt8} (hx : a.eval x = .slice A m c) (hb : Bytes w w.heap.size A m k) (hlen : l.length + m ≤ 140737488355328) (hbase : base ≤ w.heap.size)
    (h : ∀ v' w', OwnB w' base v' (l ++ k) → w.grownBy w' v.ownBlock → NewOb w v.ownBlock v'.ownBlock → K (a.put o.dst v') w') : o.wp Try.prog a w K Q := by
  obtain ⟨v', w', hr, h2, h3, h4⟩ := app_run_at o.type hown c hb hlen hbase
  unfold Oper.wp execOp
  simp only [ho, resolve, invoke, builtin, Sem.run_bind, Sem.run_pure, Result.andThen_ok, List.map_toArray, List.map_cons, List.map_nil, hs, hx, hr]
  exact h v' w' h2 h3 h4
theorem wp_zerosAt (s x : Operand) (ho : o.op = .call { callee := .builtin .append, args := #[s, x], argTypes := #[40, 3] }) (hs : a.eval s = v) (hown : OwnB w base v l)
    (n : Nat) (hx : a.eval x = .int .i64 n) (hlen : l.length + n ≤ 140737488355328) (hbase : base ≤ w.heap.size)
    (h : ∀ v' w', OwnB w' base v' (l ++ List.replicate n 0) → w.grownBy w' v.ownBlock → NewOb w v.ownBlock v'.ownBlock → K (a.put o.dst v') w') : o.wp Try.prog a w K Q := by
  obtain ⟨v', w', hr, h2, h3, h4⟩ := app_zero_run o.type hown n hlen hbase
  unfold Oper.wp execOp
  simp only [ho, resolve, invoke, builtin, Sem.run_bind, Sem.run_pure, Result.andThen_ok, List.map_toArray, List.map_cons, List.map_nil, hs, hx, hr]
  exact h v' w' h2 h3 h4
theorem wpList_appAt {ops : Array Oper} {rest : List Oper} (hgd : o.guard = none) (s x : Operand) (ho : o.op = .call { callee := .builtin .append, args := #[s, x], argTypes := #[40, 40] }) (hs : a.eval s = v) (hown : OwnB w base v l)
    {A : Option Addr} {m c : Nat} {k : List UInt8} (hx : a.eval x = .slice A m c) (hb : Bytes w w.heap.size A m k) (hlen : l.length + m ≤ 140737488355328) (hbase : base ≤ w.heap.size)
    (h : ∀ v' w', OwnB w' base v' (l ++ k) → w.grownBy w' v.ownBlock → NewOb w v.ownBlock v'.ownBlock → wpList Try.prog ops Q rest (a.put o.dst v') w') : wpList Try.prog ops Q (o :: rest) a w :=
  wpList_plain hgd fun _ hK => wp_appAt s x ho hs hown hx hb hlen hbase fun v' w' h2 h3 h4 => hK _ _ (h v' w' h2 h3 h4)
theorem step_appAt {ops : Array Oper} {E : Prop} (hgd : o.guard = none) (s x : Operand) (ho : o.op = .call { callee := .builtin .append, args := #[s, x], argTypes := #[40, 40] }) (hs : a.eval s = v) (hown : OwnB w base v l)
    {A : Option Addr} {m c : Nat} {k : List UInt8} (hx : a.eval x = .slice A m c) (hb : Bytes w w.heap.size A m k) (hlen : l.length + m ≤ 140737488355328) (hbase : base ≤ w.heap.size)
    (h : ∀ v' w', OwnB w' base v' (l ++ k) → w.grownBy w' v.ownBlock → NewOb w v.ownBlock v'.ownBlock → K (a.put o.dst v') w') :
    if Region.wanted o (yielded ops a.tmps) = true then Oper.wp Try.prog o a w K Q else E := by
  have hw : Region.wanted o (yielded ops a.tmps) = true := by simp [Region.wanted, hgd]
  rw [if_pos hw]
  exact wp_appAt s x ho hs hown hx hb hlen hbase h
theorem step_zerosAt {ops : Array Oper} {E : Prop} (hgd : o.guard = none) (s x : Operand) (ho : o.op = .call { callee := .builtin .append, args := #[s, x], argTypes := #[40, 3] }) (hs : a.eval s = v) (hown : OwnB w base v l)
    (n : Nat) (hx : a.eval x = .int .i64 n) (hlen : l.length + n ≤ 140737488355328) (hbase : base ≤ w.heap.size)
    (h : ∀ v' w', OwnB w' base v' (l ++ List.replicate n 0) → w.grownBy w' v.ownBlock → NewOb w v.ownBlock v'.ownBlock → K (a.put o.dst v') w') :
    if Region.wanted o (yielded ops a.tmps) = true then Oper.wp Try.prog o a w K Q else E := by
  have hw : Region.wanted o (yielded ops a.tmps) = true := by simp [Region.wanted, hgd]
  rw [if_pos hw]
  exact wp_zerosAt s x ho hs hown n hx hlen hbase h
end
theorem Whole.at {w : World} {g : Nat} {t : TypeId} {cs : Array Value} (h : Whole w g t cs) (i : Nat) {u : Value} (hu : cs[i]? = some u) : w.cell? ⟨g, i, none⟩ = some u := (h.cell i).trans hu
theorem Whole.ownGrown {w w' : World} {g : Nat} {t : TypeId} {cs : Array Value} {ob : Option Nat} (h : Whole w g t cs) (hG : w.grownBy w' ob) (ho : ob ≠ some g) : Whole w' g t cs := (hG.block g h.lt (fun e => ho e.symm)).trans h
theorem wpList_storeC {ops : Array Oper} {rest : List Oper} {o : Oper} {a : Act} {w : World} {Q : Exit → Act → World → Prop} (hgd : o.guard = none) (ty : TypeId) (x y : Operand) (ho : o.op = .store ty x y)
    {g i : Nat} {t : TypeId} {cs : Array Value} (cs' : Array Value) {u : Value} (hx : a.eval x = .pointer (some ⟨g, i, none⟩)) (hy : a.eval y = u) (hw : Whole w g t cs) (hi : i < cs.size)
    (hs : (Try.prog.info? ty).map (·.size) = some 1) (h1 : u.oneCell' = true) (hcells : u.cells = #[u]) (hcs : cs.setIfInBounds i u = cs')
    (h : ∀ w', Whole w' g t cs' → w.grownBy w' (some g) → wpList Try.prog ops Q rest (a.put o.dst undef) w') : wpList Try.prog ops Q (o :: rest) a w := by
  subst hcs
  refine wpList_plain hgd fun _ hK => ?_
  have hst := run_storeCells_at Try.prog g i t [u] 0 cs w hw (by simp; omega) (fun x hx => by simp at hx; subst hx; exact h1)
  unfold Oper.wp execOp
  cases hq : Try.prog.info? ty with
  | none => simp [hq] at hs
  | some d =>
    have hs' : d.size = 1 := by simpa [hq] using hs
    have hr : (storeVar ty ⟨g, i, none⟩ u).run Try.prog w = .ok () (w.setRow g (cs.toList.take (i + 0) ++ [u] ++ cs.toList.drop (i + 0 + [u].length)).toArray) := by
      simp only [storeVar, sizeOf, typeInfo, hcells]
      simpa [hq, hs'] using hst
    simp only [ho, hx, hy, Instr.storeAt, Instr.sureAddr, Sem.run_bind, Sem.run_pure, Result.andThen_ok, hr]
    refine hK _ _ (h _ ?_ ⟨rfl, rfl, rfl, by simp, fun k _ hk => setRow_other w g k _ (fun e => hk (by simp [e]))⟩)
    have e : (cs.toList.take (i + 0) ++ [u] ++ cs.toList.drop (i + 0 + [u].length)).toArray = cs.setIfInBounds i u := by
      apply Array.ext'
      rw [Array.toList_setIfInBounds, List.set_eq_take_append_cons_drop, if_pos (by simpa using hi)]
      simp
    rw [e]
    exact setRow_heap w g cs _ _ _ hw
theorem wpList_min {ops : Array Oper} {rest : List Oper} {o : Oper} {a : Act} {w : World} {Q : Exit → Act → World → Prop} (hgd : o.guard = none) (x y : Operand) {ts : Array TypeId} (ho : o.op = .call { callee := .builtin .min, args := #[x, y], argTypes := ts })
    {p q r : Int} {k : IntKind} (hx : a.eval x = .int k p) (hy : a.eval y = .int k q) (hr : (if q < p then q else p) = r) (h : wpList Try.prog ops Q rest (a.put o.dst (.int k r)) w) : wpList Try.prog ops Q (o :: rest) a w := by
  subst hr
  refine wpList_plain hgd fun _ hK => ?_
  unfold Oper.wp execOp
  simp only [ho, resolve, invoke, builtin, Sem.run_bind, Sem.run_pure, Result.andThen_ok, List.map_toArray, List.map_cons, List.map_nil, hx, hy, run_min_int2]
  exact hK _ _ h
def Qt (w w' : World) : Prop := ∃ m, w' = w.drewN m
theorem Qt.refl (w : World) : Qt w w := ⟨0, rfl⟩
theorem Qt.drewN {a b : World} (h : Qt a b) (n : Nat) : Qt a (b.drewN n) := by
  obtain ⟨m, rfl⟩ := h
  exact ⟨m + n, World.drewN_drewN a m n⟩
theorem Qt.ext {a b : World} (h : Qt a b) : Ext a b := by
  obtain ⟨m, rfl⟩ := h
  exact (Ext.refl a).drewN m
theorem Qt.trans {a b c : World} (h : Qt a b) (k : Qt b c) : Qt a c := by
  obtain ⟨m, rfl⟩ := k
  exact h.drewN m
end Go.Proofs.Ytaohdnhfodkeoaa

namespace Go.Proofs.Ytaohdnhfodkeoaa
open Go.ChangeShapes Go.WideShapes Go.ChangeAt Go.WideMaps Go.WideElems Go.RowKit
theorem addr_addT (b off i : Nat) : (⟨b, off, none⟩ : Addr).add i = ⟨b, off + i, none⟩ := by unfold Addr.add; split <;> simp_all
structure TokV where
  lit : UInt8
  len : Int
  dist : Int
deriving DecidableEq
instance : Inhabited TokV := ⟨⟨0, 0, 0⟩⟩
def TokAt (w : World) (b o : Nat) (v : TokV) : Prop :=
  w.cell? ⟨b, o, none⟩ = some (.int .u8 (v.lit.toNat : Int)) ∧ w.cell? ⟨b, o + 1, none⟩ = some (.int .i64 v.len) ∧ w.cell? ⟨b, o + 2, none⟩ = some (.int .i64 v.dist)
def TokV.ok (v : TokV) : Prop := -9223372036854775808 ≤ v.len ∧ v.len ≤ 9223372036854775807 ∧ -9223372036854775808 ≤ v.dist ∧ v.dist ≤ 9223372036854775807
def ToksAt (w : World) (B : Nat) (A : Option Addr) (n : Nat) (L : List TokV) : Prop :=
  L.length = n ∧ (n = 0 ∨ ∃ b off, A = some ⟨b, off, none⟩ ∧ b < B ∧ ∀ i, i < n → TokAt w b (off + i * 3) (L.getD i default) ∧ (L.getD i default).ok)
theorem TokAt.below {w w' : World} {b o B : Nat} {v : TokV} (h : TokAt w b o v) (hb : Below B w w') (hB : b < B) : TokAt w' b o v :=
  ⟨(hb.cell (p := ⟨b, o, none⟩) hB).trans h.1, (hb.cell (p := ⟨b, o + 1, none⟩) hB).trans h.2.1, (hb.cell (p := ⟨b, o + 2, none⟩) hB).trans h.2.2⟩
theorem ToksAt.below {w w' : World} {B C n : Nat} {A : Option Addr} {L : List TokV} (h : ToksAt w B A n L) (hb : Below C w w') (hC : B ≤ C) : ToksAt w' B A n L := by
  refine ⟨h.1, ?_⟩
  rcases h.2 with h0 | ⟨b, off, hA, hB, hc⟩
  · exact .inl h0
  · exact .inr ⟨b, off, hA, hB, fun i hi => ⟨(hc i hi).1.below hb (by omega), (hc i hi).2⟩⟩
set_option maxRecDepth 100000 in
theorem open_toks {H : Type} {enc : TypeId × Value → H} {W : World} {a : Option Addr} {n c : Nat} {d : DataW H} {p : List MemPlace} (h : DataW.Trod enc Try.prog W 0 (fun _ => true) true 33 (.slice a n c) d p) :
    ∃ L : List TokV, n ≤ c ∧ c ≤ maxLen ∧ ToksAt W W.heap.size a n L := by
  obtain ⟨fuel, hf⟩ := h
  rcases Deep.open_slice Try.underlying33 hf with ⟨hcs, _⟩ | ⟨x, n', c', m, k, D, Pl, hcs, _, hl, hm, hmm, _, hx⟩
  · simp [Value.cells] at hcs
    obtain ⟨rfl, rfl, rfl⟩ := hcs
    exact ⟨[], by omega, by unfold maxLen; omega, rfl, .inl rfl⟩
  · simp [Value.cells] at hcs
    obtain ⟨rfl, rfl, rfl⟩ := hcs
    have hmc : m = c := by simpa using hmm
    subst hmc
    have ce : Try.prog.cellsOf 23 = 3 := by kernel_rfl
    have each : ∀ i, i < m → ∃ v : TokV, v.ok ∧ W.cell? (x.add (i * 3)) = some (.int .u8 (v.lit.toNat : Int)) ∧ W.cell? (x.add (i * 3 + 1)) = some (.int .i64 v.len) ∧ W.cell? (x.add (i * 3 + 2)) = some (.int .i64 v.dist) := fun i hi => by
      obtain ⟨cs', h1, h2⟩ := hx i hi
      rw [ce] at h1
      obtain ⟨_, hlen, hcell⟩ := World.cells?_some h1
      obtain ⟨y0, y1, y2, q, _, _, g0, g1, g2⟩ := Deep.trod_struct3 Try.underlying23 h2
      have c0 : Try.prog.cellsOf 5 = 1 := by kernel_rfl
      have c1 : Try.prog.cellsOf 3 = 1 := by kernel_rfl
      match cs', hlen with
      | [v0, v1, v2], _ =>
        simp [c0, c1] at g0 g1 g2
        obtain ⟨z0, e0, _, w0⟩ := DataW.trod_int Try.underlying5 g0
        obtain ⟨z1, e1, _, w1⟩ := DataW.trod_int Try.underlying3 g1
        obtain ⟨z2, e2, _, w2⟩ := DataW.trod_int Try.underlying3 g2
        simp only [List.cons.injEq, and_true] at e0 e1 e2
        subst e0 e1 e2
        obtain ⟨a0, a1⟩ := bounds_u8 w0
        obtain ⟨b0, b1⟩ := bounds_i64 w1
        obtain ⟨d0, d1⟩ := bounds_i64 w2
        obtain ⟨z0, rfl⟩ := Int.eq_ofNat_of_zero_le a0
        have f0 := hcell 0 (by omega)
        have f1 := hcell 1 (by omega)
        have f2 := hcell 2 (by omega)
        rw [Deep.add_add] at f0 f1 f2
        have e8 : ((UInt8.ofNat z0).toNat : Int) = (z0 : Int) := by rw [UInt8.toNat_ofNat']; omega
        exact ⟨⟨UInt8.ofNat z0, z1, z2⟩, ⟨b0, b1, d0, d1⟩, by rw [e8]; simpa using f0, by simpa using f1, by simpa using f2⟩
    obtain ⟨V, hV⟩ := Deep.choose_lt each
    refine ⟨(List.range n).map V, hl, hm, by simp, ?_⟩
    rcases Nat.eq_zero_or_pos n with h0 | h0
    · exact .inl h0
    obtain ⟨b, off, spot⟩ := x
    have hc0 := (hV 0 (by omega)).2.1
    have hspot : spot = none := by simpa [Addr.add] using World.cell?_spot hc0
    subst hspot
    refine .inr ⟨b, off, rfl, by simpa [Addr.add] using World.block_lt_of_cell? W _ hc0, fun i hi => ?_⟩
    have e : ((List.range n).map V).getD i default = V i := by simp [List.getD_eq_getElem?_getD, hi]
    rw [e]
    obtain ⟨h1, h2, h3, h4⟩ := hV i (by omega)
    rw [addr_addT] at h2 h3 h4
    exact ⟨⟨h2, by rw [Nat.add_assoc]; exact h3, by rw [Nat.add_assoc]; exact h4⟩, h1⟩
def tokCells (v : TokV) : List Value := [.int .u8 (v.lit.toNat : Int), .int .i64 v.len, .int .i64 v.dist]
def OwnTk (w : World) (base : Nat) (v : Value) (L : List TokV) : Prop := w.ownsRow base 23 3 v L.length (L.flatMap tokCells)
theorem tok_info : (Try.prog.info? 23).map (fun i => (i.zero, i.size, i.bytes)) = some (some (.agg #[.int .u8 0, .int .i64 0, .int .i64 0]), 3, 24) := by kernel_rfl
theorem OwnTk.nil (w : World) (base : Nat) : OwnTk w base (.slice none 0 0) [] := World.ownsRow_nil w base _ _
theorem OwnTk.ext {w w' : World} {base : Nat} {v : Value} {L : List TokV} (h : OwnTk w base v L) (hE : Ext w w') : OwnTk w' base v L :=
  World.ownsRow.kept h (hE.grown none) (by cases hv : v.ownBlock <;> simp)
theorem OwnTk.lt {w : World} {base : Nat} {v : Value} {L : List TokV} (h : OwnTk w base v L) : ∀ k, v.ownBlock = some k → base ≤ k ∧ k < w.heap.size := World.ownsRow.lt h
theorem Mod.ownTk {w w' : World} {g : Nat} {ob : Option Nat} (h : Mod w w' g ob) {base : Nat} {v : Value} {L : List TokV} (hv : OwnTk w base v L) (hg : v.ownBlock ≠ some g) (ho : v.ownBlock = none ∨ v.ownBlock ≠ ob) : OwnTk w' base v L := by
  refine ⟨hv.1, ?_⟩
  rcases hv.2 with hn | ⟨x, cap, cur, rfl, hb, hgg, rest⟩
  · exact .inl hn
  · refine .inr ⟨x, cap, cur, rfl, hb, ?_, rest⟩
    rw [h.block x (Array.getElem?_eq_some_iff.1 hgg).1 (by intro e; subst e; simp [Value.ownBlock] at hg) (by
      intro e
      rcases ho with ho | ho
      · simp [Value.ownBlock] at ho
      · exact ho (by simpa [Value.ownBlock] using e))]
    exact hgg
theorem tokCells_get : ∀ (L : List TokV) (i j : Nat), i < L.length → j < 3 → (L.flatMap tokCells)[i * 3 + j]? = (tokCells (L.getD i default))[j]?
  | o :: L, 0, j, _, hj => by
    rw [List.flatMap_cons, Nat.zero_mul, Nat.zero_add, List.getElem?_append_left (by simp [tokCells]; omega)]
    rfl
  | o :: L, i + 1, j, h, hj => by
    rw [List.flatMap_cons, List.getElem?_append_right (by simp [tokCells]; omega)]
    have := tokCells_get L i j (by simpa using h) hj
    rw [show (i + 1) * 3 + j - (tokCells o).length = i * 3 + j by simp [tokCells]; omega, this]
    simp
theorem OwnTk.form {w : World} {base : Nat} {v : Value} {L : List TokV} (h : OwnTk w base v L) : ∃ A c, v = .slice A L.length c ∧ (L.length = 0 ∨ ∃ g, A = some ⟨g, 0, none⟩ ∧ ∀ i, i < L.length → TokAt w g (0 + i * 3) (L.getD i default)) := by
  rcases h.2 with ⟨rfl, h0⟩ | ⟨g, cap, cur, rfl, hb, hgg, hn, hc, hs, ht⟩
  · exact ⟨none, 0, by rw [h0], .inl h0⟩
  · refine ⟨_, cap, rfl, .inr ⟨g, rfl, fun i hi => ?_⟩⟩
    have hcell : ∀ j, j < 3 → w.cell? ⟨g, i * 3 + j, none⟩ = (tokCells (L.getD i default))[j]? := fun j hj => by
      rw [cell_of_row w g (i * 3 + j) cur _ _ hgg, ← tokCells_get L i j hi hj, ← ht, List.getElem?_take, if_pos (by omega)]
      simp
    rw [Nat.zero_add]
    exact ⟨by have := hcell 0 (by omega); simpa [tokCells] using this, by have := hcell 1 (by omega); simpa [tokCells] using this, by have := hcell 2 (by omega); simpa [tokCells] using this⟩
section
variable {o : Oper} {a : Act} {K : Act → World → Prop} {Q : Exit → Act → World → Prop} {w : World} {base : Nat} {v : Value} {L : List TokV}
theorem wpList_appTkB {ops : Array Oper} {rest : List Oper} (hgd : o.guard = none) (s x : Operand) (ho : o.op = .call { callee := .builtin .append, args := #[s, x], argTypes := #[33, 33] }) (hs : a.eval s = v) (p : TokV) (hown : OwnTk (w.alloc (.cells #[.int .u8 (p.lit.toNat : Int), .int .i64 p.len, .int .i64 p.dist] 23)) base v L)
    {c : Nat} (hx : a.eval x = .slice (some ⟨w.heap.size, 0, none⟩) 1 c) (hlen : L.length ≤ 1000000) (hbase : base ≤ w.heap.size)
    (h : ∀ v' w', OwnTk w' base v' (L ++ [p]) → (w.alloc (.cells #[.int .u8 (p.lit.toNat : Int), .int .i64 p.len, .int .i64 p.dist] 23)).grownBy w' v.ownBlock → NewOb (w.alloc (.cells #[.int .u8 (p.lit.toNat : Int), .int .i64 p.len, .int .i64 p.dist] 23)) v.ownBlock v'.ownBlock → wpList Try.prog ops Q rest (a.put o.dst v') w') :
    wpList Try.prog ops Q (o :: rest) a (w.alloc (.cells #[.int .u8 (p.lit.toNat : Int), .int .i64 p.len, .int .i64 p.dist] 23)) := by
  obtain ⟨i, hi, hz, hsz, hby⟩ := info_parts tok_info
  refine wpList_append_own_at _ hgd s x 33 ho base 23 i _ 3 24 Try.underlying33 hi hz hsz hby rfl (by omega) v L.length (L.flatMap tokCells) hs hown ⟨w.heap.size, 0, none⟩ 1 c (tokCells p) hx rfl (by
    intro j u hu
    rw [addr_addT, Nat.zero_add, cellNew]
    match j, hu with
    | 0, hu => simpa [tokCells] using hu
    | 1, hu => simpa [tokCells] using hu
    | 2, hu => simpa [tokCells] using hu
    | j + 3, hu => simp [tokCells] at hu) (by
    intro u hu
    simp [tokCells] at hu
    rcases hu with rfl | rfl | rfl <;> rfl) (by unfold maxLen; omega) (by omega) (by simp; omega) ?_
  intro v' w' h2 h3 _ h5
  refine h v' w' ?_ h3 (h5.imp id fun h => ⟨_, h, Nat.le_refl _⟩)
  unfold OwnTk
  rw [List.length_append, List.flatMap_append]
  simpa using h2
end
end Go.Proofs.Ytaohdnhfodkeoaa

namespace Go.Proofs.Ytaohdnhfodkeoaa.Lz
def may (t : TokV) : Bool := if t.len = 0 then decide (t.dist = 0) else decide (t.lit = 0 ∧ 3 ≤ t.len ∧ t.len ≤ 257 ∧ 1 ≤ t.dist ∧ t.dist ≤ 4095)
def sizeT (t : TokV) : Nat := if t.len = 0 then 1 else t.len.toNat
end Go.Proofs.Ytaohdnhfodkeoaa.Lz

namespace Go.Proofs.Ytaohdnhfodkeoaa
structure PcV where
  sym : Int
  len : Int
  dist : Int
  far : Int
deriving DecidableEq
instance : Inhabited PcV := ⟨⟨0, 0, 0, 0⟩⟩
end Go.Proofs.Ytaohdnhfodkeoaa
namespace Go.Proofs.Ytaohdnhfodkeoaa.Tok
open Lz
theorem log_eq {v b : Nat} (h1 : 2 ^ b ≤ v) (h2 : v < 2 ^ (b + 1)) : Nat.log2 v = b := by
  have h0 : v ≠ 0 := by have := Nat.pow_pos (n := b) (show 0 < 2 by omega); omega
  exact (Nat.log2_eq_iff h0).2 ⟨h1, h2⟩
theorem log_le {v : Nat} (h : v ≠ 0) : 2 ^ Nat.log2 v ≤ v ∧ v < 2 ^ (Nat.log2 v + 1) := (Nat.log2_eq_iff h).1 rfl
theorem log_lt {v k : Nat} (h : v ≠ 0) (hk : v < 2 ^ k) : Nat.log2 v < k := by
  have := (log_le h).1
  exact (Nat.pow_lt_pow_iff_right (show 1 < 2 by omega)).1 (by omega)
def splitE (t : TokV) : PcV × Int :=
  if may t = false then (⟨0, 0, 0, 0⟩, 7)
  else if t.len = 0 then (⟨t.lit.toNat, 0, 0, 0⟩, 0)
  else (⟨257 + (Nat.log2 (t.len - 2).toNat : Nat), ((t.len - 2).toNat - 2 ^ Nat.log2 (t.len - 2).toNat : Nat), (Nat.log2 t.dist.toNat : Nat), (t.dist.toNat - 2 ^ Nat.log2 t.dist.toNat : Nat)⟩, 0)
def joinE (p : PcV) : TokV × Int :=
  if 0 ≤ p.sym ∧ p.sym < 256 ∧ p.len = 0 ∧ p.dist = 0 ∧ p.far = 0 then (⟨UInt8.ofNat p.sym.toNat, 0, 0⟩, 0)
  else if p.sym < 257 ∨ 264 < p.sym ∨ p.dist < 0 ∨ 11 < p.dist ∨ p.len < 0 ∨ p.far < 0 then (⟨0, 0, 0⟩, 7)
  else if (2 ^ (p.sym - 257).toNat : Nat) ≤ p.len ∨ (2 ^ p.dist.toNat : Nat) ≤ p.far then (⟨0, 0, 0⟩, 7)
  else (⟨0, (2 ^ (p.sym - 257).toNat : Nat) + p.len + 2, (2 ^ p.dist.toNat : Nat) + p.far⟩, 0)
theorem split_bad {t : TokV} (h : may t = false) : splitE t = (⟨0, 0, 0, 0⟩, 7) := if_pos h
theorem split_lit {t : TokV} (h : may t = true) (h0 : t.len = 0) : splitE t = (⟨t.lit.toNat, 0, 0, 0⟩, 0) := by unfold splitE; rw [if_neg (by rw [h]; simp), if_pos h0]
theorem may_facts {t : TokV} (h : may t = true) (h0 : t.len ≠ 0) : t.lit = 0 ∧ 3 ≤ t.len ∧ t.len ≤ 257 ∧ 1 ≤ t.dist ∧ t.dist ≤ 4095 := by
  unfold may at h
  rw [if_neg h0] at h
  exact of_decide_eq_true h
theorem split_match {t : TokV} (h : may t = true) (h0 : t.len ≠ 0) : ∃ k x c y : Nat, k ≤ 7 ∧ x < 2 ^ k ∧ c ≤ 11 ∧ y < 2 ^ c ∧ t.len = (2 ^ k : Nat) + x + 2 ∧ t.dist = (2 ^ c : Nat) + y ∧ splitE t = (⟨257 + (k : Int), x, c, y⟩, 0) := by
  obtain ⟨_, h1, h2, h3, h4⟩ := may_facts h h0
  have e1 := log_le (v := (t.len - 2).toNat) (by omega)
  have e2 := log_le (v := t.dist.toNat) (by omega)
  have l1 := log_lt (v := (t.len - 2).toNat) (k := 8) (by omega) (by omega)
  have l2 := log_lt (v := t.dist.toNat) (k := 12) (by omega) (by omega)
  rw [Nat.pow_succ] at e1 e2
  refine ⟨Nat.log2 (t.len - 2).toNat, (t.len - 2).toNat - 2 ^ Nat.log2 (t.len - 2).toNat, Nat.log2 t.dist.toNat, t.dist.toNat - 2 ^ Nat.log2 t.dist.toNat, by omega, by omega, by omega, by omega, by omega, by omega, ?_⟩
  unfold splitE
  rw [if_neg (by rw [h]; simp), if_neg h0]
theorem join_split {t : TokV} (h : may t = true) : joinE (splitE t).1 = (t, 0) := by
  by_cases h0 : t.len = 0
  · rw [split_lit h h0]
    have hd : t.dist = 0 := by
      unfold may at h
      rw [if_pos h0] at h
      exact of_decide_eq_true h
    have h8 := UInt8.toNat_lt t.lit
    unfold joinE
    dsimp only
    rw [if_pos ⟨by omega, by omega, rfl, rfl, rfl⟩, Int.toNat_natCast, UInt8.ofNat_toNat]
    obtain ⟨a, b, c⟩ := t
    dsimp only at h0 hd
    rw [h0, hd]
  · obtain ⟨k, x, c, y, hk, hx, hc, hy, e1, e2, e3⟩ := split_match h h0
    have hl := (may_facts h h0).1
    rw [e3]
    unfold joinE
    dsimp only
    rw [if_neg (by omega), if_neg (by omega), show (257 + (k : Int) - 257).toNat = k by omega, Int.toNat_natCast, if_neg (by omega)]
    obtain ⟨a, b, d⟩ := t
    dsimp only at e1 e2 hl
    rw [hl, e1, e2]
theorem pow_top {k m : Nat} (h : k ≤ m) : 2 ^ k ≤ 2 ^ m := Nat.pow_le_pow_right (by omega) h
theorem split_join {p : PcV} (h : (joinE p).2 = 0) : splitE (joinE p).1 = (p, 0) ∧ may (joinE p).1 = true := by
  unfold joinE at h ⊢
  split at h
  · rename_i h1
    rw [if_pos h1]
    obtain ⟨h1, h2, h3, h4, h5⟩ := h1
    have hm : may ⟨UInt8.ofNat p.sym.toNat, 0, 0⟩ = true := by
      unfold may
      rw [if_pos rfl]
      exact decide_eq_true rfl
    refine ⟨?_, hm⟩
    rw [split_lit hm rfl]
    dsimp only
    have e : ((UInt8.ofNat p.sym.toNat).toNat : Int) = p.sym := by rw [UInt8.toNat_ofNat']; omega
    obtain ⟨a, b, c, d⟩ := p
    dsimp only at *
    rw [e, h3, h4, h5]
  · rename_i h1
    split at h
    · simp at h
    · rename_i h2
      split at h
      · simp at h
      · rename_i h3
        rw [if_neg h1, if_neg h2, if_neg h3]
        obtain ⟨a, b, c, d⟩ := p
        dsimp only at *
        obtain ⟨k, hk⟩ := Int.eq_ofNat_of_zero_le (show 0 ≤ a - 257 by omega)
        obtain ⟨x, rfl⟩ := Int.eq_ofNat_of_zero_le (show 0 ≤ b by omega)
        obtain ⟨m, rfl⟩ := Int.eq_ofNat_of_zero_le (show 0 ≤ c by omega)
        obtain ⟨y, rfl⟩ := Int.eq_ofNat_of_zero_le (show 0 ≤ d by omega)
        have ea : a = 257 + (k : Int) := by omega
        subst ea
        rw [show (257 + (k : Int) - 257).toNat = k by omega, Int.toNat_natCast] at *
        have hk7 : k ≤ 7 := by omega
        have hm11 : m ≤ 11 := by omega
        have p1 := pow_top hk7
        have p2 := pow_top hm11
        have q1 : 0 < 2 ^ k := Nat.pow_pos (by omega)
        have q2 : 0 < 2 ^ m := Nat.pow_pos (by omega)
        have hm : may ⟨0, ((2 ^ k : Nat) : Int) + (x : Int) + 2, ((2 ^ m : Nat) : Int) + (y : Int)⟩ = true := by
          unfold may
          dsimp only
          rw [if_neg (by omega)]
          exact decide_eq_true ⟨rfl, by omega, by omega, by omega, by omega⟩
        refine ⟨?_, hm⟩
        unfold splitE
        rw [if_neg (by rw [hm]; simp)]
        dsimp only
        rw [if_neg (by omega)]
        have l1 : Nat.log2 ((((2 ^ k : Nat) : Int) + (x : Int) + 2) - 2).toNat = k := log_eq (by omega) (by rw [Nat.pow_succ]; omega)
        have l2 : Nat.log2 (((2 ^ m : Nat) : Int) + (y : Int)).toNat = m := log_eq (by omega) (by rw [Nat.pow_succ]; omega)
        rw [l1, l2]
        congr 1
        congr 1
        · omega
        · omega
end Go.Proofs.Ytaohdnhfodkeoaa.Tok

namespace Go.Proofs.Ytaohdnhfodkeoaa
open Go.RowKit
theorem results_row2 {fn : Func} {p u : Tmp} {ty : TypeId} (h : fn.results = #[.cell p ty, .tmp u]) (tmps : Array Value) {w : World} {g : Nat} {cs : Array Value} {x : Value} (hp : tmps.getD p undef = .pointer (some ⟨g, 0, none⟩)) (hx : tmps.getD u undef = x)
    (hl : (loadVar ty ⟨g, 0, none⟩).run Try.prog w = .ok (.agg cs) w) : (results fn tmps).run Try.prog w = .ok (.tuple #[.agg cs, x]) w := by
  rw [results_cell_tmp h, hp, hx]
  simp [asAddr, Result.andThen, hl]
end Go.Proofs.Ytaohdnhfodkeoaa

namespace Go.Proofs.Ytaohdnhfodkeoaa
open Go.RowKit Lz
def tokV (t : TokV) : Value := .agg #[.int .u8 (t.lit.toNat : Int), .int .i64 t.len, .int .i64 t.dist]
theorem Lz.may_lit {t : TokV} (h : t.len = 0) : may t = decide (t.dist = 0) := by unfold may; rw [if_pos h]
theorem Lz.may_match {t : TokV} (h : t.len ≠ 0) : may t = decide (t.lit = 0 ∧ 3 ≤ t.len ∧ t.len ≤ 257 ∧ 1 ≤ t.dist ∧ t.dist ≤ 4095) := by unfold may; rw [if_neg h]
set_option maxHeartbeats 2000000 in
set_option maxRecDepth 100000 in
theorem refTMay_any (t : TokV) (w : World) : Calls Try.prog 24 #[tokV t] w fun e w' => e = .returned (.bool (may t)) ∧ Ext w w' := by
  have hE1 := extNew w (.cells #[.int .u8 (t.lit.toNat : Int), .int .i64 t.len, .int .i64 t.dist] 23)
  have hW1 := Whole.new w 23 #[.int .u8 (t.lit.toNat : Int), .int .i64 t.len, .int .i64 t.dist]
  have c0 := hW1.at 0 rfl
  have c1 := hW1.at 1 rfl
  have c2 := hW1.at 2 rfl
  have hl8 := UInt8.toNat_lt t.lit
  have HLit := hide (show t.lit.toNat = 0 ↔ t.lit = 0 from ⟨fun h => UInt8.toNat_inj.1 h, fun h => by rw [h]; rfl⟩)
  unfold tokV
  by_cases h0 : t.len = 0
  · have HM := hide (may_lit h0)
    generalize may t = res at *
    obtain ⟨tl, tn, td⟩ := t
    dsimp only at *
    subst h0
    by_cases hd : td = 0
    · have HR := hide (show res = true by rw [HM.out]; exact decide_eq_true hd)
      subst hd
      clear HM HLit
      go_enter Try.func24, Try.ntmps24
      go_wp2
      go_ret
      exact ⟨ret_bool HR.out.symm, hE1⟩
    · have HR := hide (show res = false by rw [HM.out]; exact decide_eq_false hd)
      have hdb : (td == 0) = false := by rw [beq_eq_false_iff_ne]; exact hd
      clear HM HLit
      go_enter Try.func24, Try.ntmps24
      go_wp2
      go_ret
      exact ⟨ret_bool HR.out.symm, hE1⟩
  · have HM := hide (may_match h0)
    generalize may t = res at *
    obtain ⟨tl, tn, td⟩ := t
    dsimp only at *
    have h0b : (tn == 0) = false := by rw [beq_eq_false_iff_ne]; exact h0
    have HNo := hide (show ¬ (tl = 0 ∧ 3 ≤ tn ∧ tn ≤ 257 ∧ 1 ≤ td ∧ td ≤ 4095) → res = false from fun h => by rw [HM.out]; exact decide_eq_false h)
    have HYes := hide (show (tl = 0 ∧ 3 ≤ tn ∧ tn ≤ 257 ∧ 1 ≤ td ∧ td ≤ 4095) → res = true from fun h => by rw [HM.out]; exact decide_eq_true h)
    obtain ⟨y, hy⟩ : ∃ y, y = tl.toNat := ⟨_, rfl⟩
    rw [← hy] at c0 c1 c2 hE1 hl8 HLit ⊢
    clear HM hy hW1
    by_cases g1 : y = 0
    · have hl0 := HLit.out.1 g1
      subst g1
      by_cases g2 : 3 ≤ tn
      · by_cases g3 : tn ≤ 257
        · by_cases g4 : 1 ≤ td
          · by_cases g5 : td ≤ 4095
            · have HR := hide (HYes.out ⟨hl0, g2, g3, g4, g5⟩)
              clear HYes HNo HLit hl0
              go_enter Try.func24, Try.ntmps24
              go_wp2
              go_ret
              exact ⟨ret_bool HR.out.symm, hE1⟩
            · have HR := hide (HNo.out fun h => g5 h.2.2.2.2)
              clear HYes HNo HLit hl0
              go_enter Try.func24, Try.ntmps24
              go_wp2
              go_ret
              exact ⟨ret_bool HR.out.symm, hE1⟩
          · have HR := hide (HNo.out fun h => g4 h.2.2.2.1)
            clear HYes HNo HLit hl0
            go_enter Try.func24, Try.ntmps24
            go_wp2
            go_ret
            exact ⟨ret_bool HR.out.symm, hE1⟩
        · have HR := hide (HNo.out fun h => g3 h.2.2.1)
          clear HYes HNo HLit hl0
          go_enter Try.func24, Try.ntmps24
          go_wp2
          go_ret
          exact ⟨ret_bool HR.out.symm, hE1⟩
      · have HR := hide (HNo.out fun h => g2 h.2.1)
        clear HYes HNo HLit hl0
        go_enter Try.func24, Try.ntmps24
        go_wp2
        go_ret
        exact ⟨ret_bool HR.out.symm, hE1⟩
    · have HR := hide (HNo.out fun h => g1 (HLit.out.2 h.1))
      have hyb : ((y : Int) == 0) = false := by rw [beq_eq_false_iff_ne]; omega
      clear HYes HNo HLit
      go_enter Try.func24, Try.ntmps24
      go_wp2
      go_ret
      exact ⟨ret_bool HR.out.symm, hE1⟩
theorem TokAt.cells {w : World} {g o : Nat} {t : TokV} (h : TokAt w g o t) : w.cell? ⟨g, o, none⟩ = some (.int .u8 (t.lit.toNat : Int)) ∧ w.cell? ⟨g, o + 1, none⟩ = some (.int .i64 t.len) ∧ w.cell? ⟨g, o + 2, none⟩ = some (.int .i64 t.dist) := h
end Go.Proofs.Ytaohdnhfodkeoaa

namespace Go.Proofs.Ytaohdnhfodkeoaa
open Go.RowKit Lz Tok
def pcV (p : PcV) : Value := .agg #[.int .i64 p.sym, .int .i64 p.len, .int .i64 p.dist, .int .i64 p.far]
theorem pc_info : (Try.prog.info? 25).map (·.size) = some 4 := by kernel_rfl
theorem pc_one (a b c d : Int) : (#[.int .i64 a, .int .i64 b, .int .i64 c, .int .i64 d] : Array Value).all (·.oneCell') = true := by
  simp
  exact ⟨rfl, rfl, rfl, rfl⟩
theorem tk_one (a b c : Int) : (#[.int .u8 a, .int .i64 b, .int .i64 c] : Array Value).all (·.oneCell') = true := by
  simp
  exact ⟨rfl, rfl, rfl⟩
theorem tk_info : (Try.prog.info? 23).map (·.size) = some 3 := by kernel_rfl
set_option maxHeartbeats 1000000 in
theorem class_any (v : Nat) (h1 : 1 ≤ v) (h2 : v ≤ 4095) (w : World) : Calls Try.prog 27 #[.int .i64 (v : Int)] w fun e w' => e = .returned (.tuple #[.int .i64 ((Nat.log2 v : Nat) : Int), .int .i64 ((v - 2 ^ Nat.log2 v : Nat) : Int)]) ∧ Ext w w' := by
  go_enter Try.func27, Try.ntmps27
  go_wp2
  go_loopw [4, 5] (fun x y wr => ∃ b p : Nat, b ≤ 11 ∧ p = 2 ^ b ∧ p ≤ v ∧ x = .int .i64 (b : Int) ∧ y = .int .i64 (p : Int) ∧ wr = w) (fun x _ _ => 12 - (intOf x).toNat)
  case atStart => exact ⟨0, 1, by omega, rfl, h1, rfl, rfl, rfl⟩
  case round =>
    obtain ⟨b, p, hb, hp, hpv, rfl, rfl, rfl⟩ := hrel
    have HP := hide hp
    by_cases hlt : 2 * p ≤ v
    · have hI : 2 * (p : Int) ≤ (v : Int) := by omega
      have hb10 : b ≤ 10 := by
        refine Classical.byContradiction fun hc => ?_
        have := pow_top (k := 11) (m := b) (by omega)
        omega
      have HS := hide (show 2 * p = 2 ^ (b + 1) by rw [Nat.pow_succ, ← HP.out, Nat.mul_comm])
      clear hp
      go_wp2
      go_roundw
      case rel => exact ⟨b + 1, 2 * p, by omega, HS.out, hlt, by go_num, by go_num, trivial⟩
      case measure => simp [intOf]; omega
    · have hI : ¬ 2 * (p : Int) ≤ (v : Int) := by omega
      have HL := hide (log_eq (v := v) (b := b) (by omega) (by rw [Nat.pow_succ]; omega))
      clear hp
      go_wp2
      go_ret2
      rw [HL.out, ← HP.out]
      exact ⟨congrArg (fun z => Ending.returned (.tuple #[.int .i64 (b : Int), .int .i64 z])) (by omega), Ext.refl _⟩
set_option maxHeartbeats 1000000 in
theorem power_any (b : Nat) (h : b ≤ 11) (w : World) : Calls Try.prog 29 #[.int .i64 (b : Int)] w fun e w' => e = .returned (.int .i64 ((2 ^ b : Nat) : Int)) ∧ Qt w w' := by
  go_enter Try.func29, Try.ntmps29
  go_wp2
  go_loopw [3, 4] (fun y x wr => ∃ i p : Nat, i ≤ b ∧ p = 2 ^ i ∧ p ≤ 2048 ∧ x = .int .i64 (i : Int) ∧ y = .int .i64 (p : Int) ∧ wr = w) (fun _ x _ => b - (intOf x).toNat)
  case atStart => exact ⟨0, 1, by omega, rfl, by omega, rfl, rfl, rfl⟩
  case round =>
    obtain ⟨i, p, hi, hp, hpb, rfl, rfl, rfl⟩ := hrel
    have HP := hide hp
    by_cases hlt : i < b
    · have hI : (i : Int) < (b : Int) := by omega
      have HS := hide (show 2 * p = 2 ^ (i + 1) by rw [Nat.pow_succ, ← HP.out, Nat.mul_comm])
      have HT := hide (show 2 * p ≤ 2048 by
        have := pow_top (k := i + 1) (m := 11) (by omega)
        rw [HS.out]
        exact this)
      clear hp
      go_wp2
      go_roundw
      case rel => exact ⟨i + 1, 2 * p, by omega, HS.out, HT.out, by go_num, by go_num, trivial⟩
      case measure => simp [intOf]; omega
    · obtain rfl : b = i := by omega
      clear hp
      go_wp2
      go_ret
      exact ⟨ret_i64 (by rw [HP.out]), Qt.refl _⟩
def SplitTo (w : World) (r : PcV × Int) (e : Ending) (w' : World) : Prop := e = .returned (.tuple #[pcV r.1, .int .i64 r.2]) ∧ Ext w w'
def JoinTo (w : World) (r : TokV × Int) (e : Ending) (w' : World) : Prop := e = .returned (.tuple #[tokV r.1, .int .i64 r.2]) ∧ Ext w w'
set_option maxHeartbeats 2000000 in
set_option maxRecDepth 100000 in
theorem refSplit_any (t : TokV) (w : World) : Calls Try.prog 12 #[tokV t] w (SplitTo w (splitE t)) := by
  have hE1 := (extNew w (.cells #[.int .u8 (t.lit.toNat : Int), .int .i64 t.len, .int .i64 t.dist] 23)).alloc (.cells #[.int .i64 0, .int .i64 0, .int .i64 0, .int .i64 0] 25)
  have hW1 := (Whole.new w 23 #[.int .u8 (t.lit.toNat : Int), .int .i64 t.len, .int .i64 t.dist]).alloc (.cells #[.int .i64 0, .int .i64 0, .int .i64 0, .int .i64 0] 25)
  have hP1 := Whole.new (w.alloc (.cells #[.int .u8 (t.lit.toNat : Int), .int .i64 t.len, .int .i64 t.dist] 23)) 25 #[.int .i64 0, .int .i64 0, .int .i64 0, .int .i64 0]
  rw [World.size_alloc] at hP1
  have CM := fun W => refTMay_any t W
  unfold tokV at CM ⊢
  cases hm : may t with
  | false =>
    rw [hm] at CM
    have HN := hide (split_bad hm)
    generalize splitE t = res at *
    clear hm
    generalize t.lit.toNat = y at *
    generalize t.len = tn at *
    generalize t.dist = td at *
    go_enter Try.func12, Try.ntmps12
    go_wp2_with (refine wpList_load_row rfl 23 (.tmp 1) rfl _ rfl _ _ _ _ hW1 Try.underlying23 rfl tk_info ?_)
    refine (CM _).mono ?_
    rintro e w2 ⟨rfl, hE2⟩
    have hP2 := hP1.ext hE2
    clear CM
    go_wp2_with (refine wpList_storeW rfl 25 (.tmp 2) (.tmp 11) rfl rfl rfl hP2 rfl pc_info (pc_one ..) ?_; intro w5 hW5 hG5 _)
    refine bodyPost_ret (results_row2 rfl _ rfl rfl (run_loadVar_row _ _ _ _ _ _ _ hW5 Try.underlying25 rfl pc_info)) rfl ?_
    have hE := hE1.trans hE2
    rw [HN.out]
    exact ⟨rfl, Below.grown hE hG5 hE.le (fun k hk => by cases hk; omega)⟩
  | true =>
    rw [hm] at CM
    have hwp := hP1.lt
    by_cases h0 : t.len = 0
    · have HN := hide (split_lit hm h0)
      generalize splitE t = res at *
      rw [h0] at CM hE1 hW1 hP1 ⊢
      clear hm h0
      have h8 := UInt8.toNat_lt t.lit
      generalize t.lit.toNat = y at *
      generalize t.dist = td at *
      go_enter Try.func12, Try.ntmps12
      go_wp2_with (refine wpList_load_row rfl 23 (.tmp 1) rfl _ rfl _ _ _ _ hW1 Try.underlying23 rfl tk_info ?_)
      refine (CM _).mono ?_
      rintro e w2 ⟨rfl, hE2⟩
      have hP2 := hP1.ext hE2
      have hW2 := hW1.ext hE2
      have c0 := hW2.at 0 (u := .int .u8 (y : Int)) rfl
      have c1 := hW2.at 1 (u := .int .i64 0) rfl
      clear CM
      go_wp2_with (refine wpList_storeW rfl 25 (.tmp 2) (.tmp 18) rfl rfl rfl hP2 rfl pc_info (pc_one ..) ?_; intro w5 hW5 hG5 _)
      refine bodyPost_ret (results_row2 rfl _ rfl rfl (run_loadVar_row _ _ _ _ _ _ _ hW5 Try.underlying25 rfl pc_info)) rfl ?_
      have hE := hE1.trans hE2
      rw [HN.out]
      exact ⟨rfl, Below.grown hE hG5 hE.le (fun k hk => by cases hk; omega)⟩
    · obtain ⟨_, m1, m2, m3, m4⟩ := may_facts hm h0
      obtain ⟨v, hv⟩ := Int.eq_ofNat_of_zero_le (show 0 ≤ t.len - 2 by omega)
      obtain ⟨d, hd⟩ := Int.eq_ofNat_of_zero_le (show 0 ≤ t.dist by omega)
      have hlv : t.len = (v : Int) + 2 := by omega
      have HN := hide (show splitE t = (⟨257 + (Nat.log2 v : Nat), (v - 2 ^ Nat.log2 v : Nat), (Nat.log2 d : Nat), (d - 2 ^ Nat.log2 d : Nat)⟩, 0) by
        unfold splitE
        rw [if_neg (by rw [hm]; simp), if_neg h0, hv, hd, Int.toNat_natCast, Int.toNat_natCast])
      have C1 := fun W => class_any v (by omega) (by omega) W
      have C2 := fun W => class_any d (by omega) (by omega) W
      have b1 : Nat.log2 v < 8 := log_lt (by omega) (by omega)
      have b2 : Nat.log2 d < 12 := log_lt (by omega) (by omega)
      generalize splitE t = res at *
      rw [hlv, hd] at CM hE1 hW1 hP1 ⊢
      have hv8 : v ≤ 255 := by omega
      have hd4 : d ≤ 4095 := by omega
      clear hm h0 m1 m2 m3 m4 hv hd hlv
      generalize t.lit.toNat = y at *
      generalize v - 2 ^ Nat.log2 v = x1 at *
      generalize d - 2 ^ Nat.log2 d = x2 at *
      generalize Nat.log2 v = l1 at *
      generalize Nat.log2 d = l2 at *
      have hlb : (((v : Int) + 2) == 0) = false := by rw [beq_eq_false_iff_ne]; omega
      go_enter Try.func12, Try.ntmps12
      go_wp2_with (refine wpList_load_row rfl 23 (.tmp 1) rfl _ rfl _ _ _ _ hW1 Try.underlying23 rfl tk_info ?_)
      refine (CM _).mono ?_
      rintro e w2 ⟨rfl, hE2⟩
      have hP2 := hP1.ext hE2
      have hW2 := hW1.ext hE2
      have c1 := hW2.at 1 (u := .int .i64 ((v : Int) + 2)) rfl
      clear CM
      go_wp2_with fail
      have hv2 : (v : Int) + 2 - 2 = (v : Int) := by omega
      try rw [hv2]
      refine (C1 _).mono ?_
      rintro e w3 ⟨rfl, hE3⟩
      have hP3 := hP2.ext hE3
      have hW3 := hW2.ext hE3
      have c2 := hW3.at 2 (u := .int .i64 (d : Int)) rfl
      clear C1
      go_wp2_with fail
      refine (C2 _).mono ?_
      rintro e w4 ⟨rfl, hE4⟩
      have hP4 := hP3.ext hE4
      have hE := ((hE1.trans hE2).trans hE3).trans hE4
      clear C2
      go_wp2_with (refine wpList_storeW rfl 25 (.tmp 2) (.tmp 37) rfl rfl rfl hP4 rfl pc_info (pc_one ..) ?_; intro w5 hW5 hG5 _)
      refine bodyPost_ret (results_row2 rfl _ rfl rfl (run_loadVar_row _ _ _ _ _ _ _ hW5 Try.underlying25 rfl pc_info)) rfl ?_
      rw [HN.out]
      exact ⟨rfl, Below.grown hE hG5 hE.le (fun k hk => by cases hk; omega)⟩
end Go.Proofs.Ytaohdnhfodkeoaa

namespace Go.Proofs.Ytaohdnhfodkeoaa
open Go.RowKit
def sameB (a b : List UInt8) : Bool := decide (a = b)
theorem sameB_true {a b : List UInt8} (h : a = b) : sameB a b = true := decide_eq_true h
theorem sameB_false {a b : List UInt8} (h : a ≠ b) : sameB a b = false := decide_eq_false h
end Go.Proofs.Ytaohdnhfodkeoaa
namespace Go.Proofs.Ytaohdnhfodkeoaa
open Go.RowKit
theorem conv_bytes {w : World} {B : Nat} {A : Option Addr} {n : Nat} {l : List UInt8} (c : Nat) (h : Bytes w B A n l) (hA : A = none → n = 0) :
    (convert 40 9 (.slice A n c)).run Try.prog w = .ok (.string ⟨l.toArray⟩) w := by
  obtain ⟨hl, hb⟩ := h
  rcases A with _ | ad
  · obtain rfl := hA rfl
    obtain rfl := List.eq_nil_of_length_eq_zero hl
    exact run_convert_bytes_nil w 40 5 Try.underlying40 Try.underlying5 0 c 9 Try.underlying9
  · subst hl
    refine run_convert_bytes_back w 40 9 5 ad c l Try.underlying40 Try.underlying5 Try.underlying9 fun j hj => ?_
    rcases hb with h0 | ⟨b, off, hA, _, hc⟩
    · omega
    · obtain rfl : ad = ⟨b, off, none⟩ := by injection hA
      have hadd : (⟨b, off, none⟩ : Addr).add j = ⟨b, off + j, none⟩ := by unfold Addr.add; split <;> simp_all
      rw [hadd, hc j hj, List.getD_eq_getElem?_getD, List.getElem?_eq_getElem hj]
      rfl
theorem same_beq (a b : List UInt8) : sameB a b = (a == b) := by
  by_cases h : a = b
  · rw [sameB_true h]; simp [h]
  · rw [sameB_false h]; simp [h]
end Go.Proofs.Ytaohdnhfodkeoaa

namespace Go.Proofs.Ytaohdnhfodkeoaa
open Go.RowKit
set_option maxHeartbeats 1000000 in
theorem same_any (A1 A2 : Option Addr) (n m c d : Nat) (a b : List UInt8) (w : World) (ha : Bytes w w.heap.size A1 n a) (hb : Bytes w w.heap.size A2 m b) :
    Calls Try.prog 19 #[.slice A1 n c, .slice A2 m d] w fun e w' => e = .returned (.bool (sameB a b)) ∧ Ext w w' := by
  have h1 := conv_bytes c ha (fun h => by subst h; rcases ha.2 with h | ⟨_, _, h, _⟩; exact h; cases h)
  have h2 := conv_bytes d hb (fun h => by subst h; rcases hb.2 with h | ⟨_, _, h, _⟩; exact h; cases h)
  clear ha hb
  go_enter Try.func19, Try.ntmps19
  go_wp2
  go_ret
  exact ⟨ret_bool (same_beq a b).symm, Ext.refl _⟩
end Go.Proofs.Ytaohdnhfodkeoaa

namespace Go.Proofs.Ytaohdnhfodkeoaa
open Go.RowKit Lz
theorem OwnTk.at {w : World} {base : Nat} {v : Value} {L : List TokV} (h : OwnTk w base v L) (hok : ∀ t, t ∈ L → t.ok) : ∃ A c, v = .slice A L.length c ∧ L.length ≤ c ∧ c ≤ maxLen ∧ ToksAt w w.heap.size A L.length L := by
  have hl := h.lt
  obtain ⟨A, c, rfl, hA⟩ := h.form
  have hc : L.length ≤ c ∧ c ≤ maxLen := by
    rcases h.2 with ⟨e, h0⟩ | ⟨g, cap, cur, e, hb, hgg, hn, hc, _⟩
    · simp only [Value.slice.injEq] at e
      unfold maxLen
      omega
    · simp only [Value.slice.injEq] at e
      obtain ⟨_, _, rfl⟩ := e
      exact ⟨hn, hc⟩
  refine ⟨A, c, rfl, hc.1, hc.2, rfl, ?_⟩
  rcases hA with h0 | ⟨g, rfl, hi⟩
  · exact .inl h0
  · refine .inr ⟨g, 0, rfl, (hl g rfl).2, fun i hi2 => ⟨hi i hi2, hok _ ?_⟩⟩
    rw [List.getD_eq_getElem?_getD, List.getElem?_eq_getElem hi2]
    exact List.getElem_mem hi2
theorem ToksAt.later {w w' : World} {A : Option Addr} {n : Nat} {L : List TokV} (h : ToksAt w w.heap.size A n L) (hE : Ext w w') : ToksAt w' w'.heap.size A n L := by
  have := h.below hE (Nat.le_refl _)
  refine ⟨this.1, this.2.imp_right ?_⟩
  rintro ⟨b, off, e, hb, hc⟩
  exact ⟨b, off, e, Nat.lt_of_lt_of_le hb hE.le, hc⟩
set_option maxHeartbeats 2000000 in
set_option maxRecDepth 100000 in
theorem refTSame_any (A1 A2 : Option Addr) (c1 c2 : Nat) (L : List TokV) (w : World) (h1 : ToksAt w w.heap.size A1 L.length L) (h2 : ToksAt w w.heap.size A2 L.length L) (hn : L.length ≤ 1000000) :
    Calls Try.prog 22 #[.slice A1 L.length c1, .slice A2 L.length c2] w fun e w' => e = .returned (.bool true) ∧ Ext w w' := by
  have H1 := hide h1
  have H2 := hide h2
  clear h1 h2
  generalize hN : L.length = N at *
  clear hN
  go_enter Try.func22, Try.ntmps22
  go_wp2
  go_loopw [5] (fun x wr => ∃ i : Nat, i ≤ N ∧ x = .int .i64 (i : Int) ∧ Qt w wr) (fun x _ => N - (intOf x).toNat)
  case atStart => exact ⟨0, by omega, rfl, Qt.refl _⟩
  case round =>
    obtain ⟨i, hi, rfl, hQ⟩ := hrel
    by_cases hlt : i < N
    · have hiI : (i : Int) < (N : Int) := by omega
      rcases (H1.out.later hQ.ext).2 with h0 | ⟨b1, o1, rfl, _, hc1⟩
      · omega
      rcases (H2.out.later hQ.ext).2 with h0 | ⟨b2, o2, rfl, _, hc2⟩
      · omega
      obtain ⟨c0, c1', c2'⟩ := (hc1 i hlt).1.cells
      obtain ⟨d0, d1, d2⟩ := (hc2 i hlt).1.cells
      clear hc1 hc2
      generalize (L.getD i default).lit.toNat = y at *
      generalize (L.getD i default).len = tn at *
      generalize (L.getD i default).dist = td at *
      go_wp2_with fail
      go_quiet (fail)
      go_wp2
      go_roundw
      case rel => exact ⟨i + 1, by omega, by go_num, hQ.drewN _⟩
      case measure => simp [intOf]; omega
    · obtain rfl : N = i := by omega
      go_wp2
      go_ret
      exact ⟨rfl, hQ.ext⟩
end Go.Proofs.Ytaohdnhfodkeoaa

namespace Go.Proofs.Ytaohdnhfodkeoaa
open Go.RowKit Lz
set_option maxHeartbeats 2000000 in
set_option maxRecDepth 100000 in
theorem lzMay_any (t : TokV) (w : World) : Calls Try.prog 25 #[tokV t] w fun e w' => e = .returned (.bool (may t)) ∧ Ext w w' := by
  have hE1 := extNew w (.cells #[.int .u8 (t.lit.toNat : Int), .int .i64 t.len, .int .i64 t.dist] 23)
  have hW1 := Whole.new w 23 #[.int .u8 (t.lit.toNat : Int), .int .i64 t.len, .int .i64 t.dist]
  have c0 := hW1.at 0 rfl
  have c1 := hW1.at 1 rfl
  have c2 := hW1.at 2 rfl
  have hl8 := UInt8.toNat_lt t.lit
  have HLit := hide (show t.lit.toNat = 0 ↔ t.lit = 0 from ⟨fun h => UInt8.toNat_inj.1 h, fun h => by rw [h]; rfl⟩)
  unfold tokV
  by_cases h0 : t.len = 0
  · have HM := hide (may_lit h0)
    generalize may t = res at *
    obtain ⟨tl, tn, td⟩ := t
    dsimp only at *
    subst h0
    by_cases hd : td = 0
    · have HR := hide (show res = true by rw [HM.out]; exact decide_eq_true hd)
      subst hd
      clear HM HLit
      go_enter Try.func25, Try.ntmps25
      go_wp2
      go_ret
      exact ⟨ret_bool HR.out.symm, hE1⟩
    · have HR := hide (show res = false by rw [HM.out]; exact decide_eq_false hd)
      have hdb : (td == 0) = false := by rw [beq_eq_false_iff_ne]; exact hd
      clear HM HLit
      go_enter Try.func25, Try.ntmps25
      go_wp2
      go_ret
      exact ⟨ret_bool HR.out.symm, hE1⟩
  · have HM := hide (may_match h0)
    generalize may t = res at *
    obtain ⟨tl, tn, td⟩ := t
    dsimp only at *
    have h0b : (tn == 0) = false := by rw [beq_eq_false_iff_ne]; exact h0
    have HNo := hide (show ¬ (tl = 0 ∧ 3 ≤ tn ∧ tn ≤ 257 ∧ 1 ≤ td ∧ td ≤ 4095) → res = false from fun h => by rw [HM.out]; exact decide_eq_false h)
    have HYes := hide (show (tl = 0 ∧ 3 ≤ tn ∧ tn ≤ 257 ∧ 1 ≤ td ∧ td ≤ 4095) → res = true from fun h => by rw [HM.out]; exact decide_eq_true h)
    obtain ⟨y, hy⟩ : ∃ y, y = tl.toNat := ⟨_, rfl⟩
    rw [← hy] at c0 c1 c2 hE1 hl8 HLit ⊢
    clear HM hy hW1
    by_cases g1 : y = 0
    · have hl0 := HLit.out.1 g1
      subst g1
      by_cases g2 : 3 ≤ tn
      · by_cases g3 : tn ≤ 257
        · by_cases g4 : 1 ≤ td
          · by_cases g5 : td ≤ 4095
            · have HR := hide (HYes.out ⟨hl0, g2, g3, g4, g5⟩)
              clear HYes HNo HLit hl0
              go_enter Try.func25, Try.ntmps25
              go_wp2
              go_ret
              exact ⟨ret_bool HR.out.symm, hE1⟩
            · have HR := hide (HNo.out fun h => g5 h.2.2.2.2)
              clear HYes HNo HLit hl0
              go_enter Try.func25, Try.ntmps25
              go_wp2
              go_ret
              exact ⟨ret_bool HR.out.symm, hE1⟩
          · have HR := hide (HNo.out fun h => g4 h.2.2.2.1)
            clear HYes HNo HLit hl0
            go_enter Try.func25, Try.ntmps25
            go_wp2
            go_ret
            exact ⟨ret_bool HR.out.symm, hE1⟩
        · have HR := hide (HNo.out fun h => g3 h.2.2.1)
          clear HYes HNo HLit hl0
          go_enter Try.func25, Try.ntmps25
          go_wp2
          go_ret
          exact ⟨ret_bool HR.out.symm, hE1⟩
      · have HR := hide (HNo.out fun h => g2 h.2.1)
        clear HYes HNo HLit hl0
        go_enter Try.func25, Try.ntmps25
        go_wp2
        go_ret
        exact ⟨ret_bool HR.out.symm, hE1⟩
    · have HR := hide (HNo.out fun h => g1 (HLit.out.2 h.1))
      have hyb : ((y : Int) == 0) = false := by rw [beq_eq_false_iff_ne]; omega
      clear HYes HNo HLit
      go_enter Try.func25, Try.ntmps25
      go_wp2
      go_ret
      exact ⟨ret_bool HR.out.symm, hE1⟩
end Go.Proofs.Ytaohdnhfodkeoaa

namespace Go.Proofs.Ytaohdnhfodkeoaa
open Go.RowKit
namespace Bit
def at_ (l : List UInt8) (i : Nat) : Bool := (l.getD (i / 8) 0).toNat.testBit (7 - i % 8)
def val (f : Nat → Bool) : Nat → Nat
  | 0 => 0
  | n + 1 => 2 * val f n + (f n).toNat
def num (x n : Nat) : List Bool := (List.range n).map fun i => x.testBit (n - 1 - i)
def zeros : Nat → (Nat → Bool) → Nat
  | 0, _ => 0
  | n + 1, f => if f 0 then 0 else 1 + zeros n fun i => f (i + 1)
theorem val_lt (f : Nat → Bool) : ∀ n, val f n < 2 ^ n
  | 0 => by simp [val]
  | n + 1 => by
    have := val_lt f n
    have hb : (f n).toNat ≤ 1 := by cases f n <;> simp
    rw [val, Nat.pow_succ]
    omega
theorem val_congr {f g : Nat → Bool} : ∀ n, (∀ i, i < n → f i = g i) → val f n = val g n
  | 0, _ => rfl
  | n + 1, h => by rw [val, val, val_congr n fun i hi => h i (by omega), h n (by omega)]
theorem val_add (f : Nat → Bool) (k : Nat) : ∀ m, val f (k + m) = val f k * 2 ^ m + val (fun i => f (k + i)) m
  | 0 => by simp [val]
  | m + 1 => by
    rw [← Nat.add_assoc, val, val, val_add f k m, Nat.pow_succ, Nat.mul_add]
    have : 2 * (val f k * 2 ^ m) = val f k * (2 ^ m * 2) := by rw [Nat.mul_comm 2, Nat.mul_assoc]
    omega
theorem testBit_toNat (x i : Nat) : (x.testBit i).toNat = x / 2 ^ i % 2 := by
  rw [Nat.testBit_eq_decide_div_mod_eq]
  have : x / 2 ^ i % 2 < 2 := Nat.mod_lt _ (by omega)
  rcases (by omega : x / 2 ^ i % 2 = 0 ∨ x / 2 ^ i % 2 = 1) with h | h <;> simp [h]
theorem val_down (c p : Nat) : ∀ m, m ≤ p → val (fun i => c.testBit (p - 1 - i)) m = c / 2 ^ (p - m) % 2 ^ m
  | 0, _ => by simp [val, Nat.mod_one]
  | m + 1, h => by
    rw [val, val_down c p m (by omega), testBit_toNat]
    obtain ⟨q, rfl⟩ : ∃ q, p = q + (m + 1) := ⟨p - (m + 1), by omega⟩
    rw [show q + (m + 1) - m = q + 1 by omega, show q + (m + 1) - 1 - m = q by omega, show q + (m + 1) - (m + 1) = q by omega]
    rw [Nat.pow_succ 2 q, ← Nat.div_div_eq_div_mul, Nat.pow_succ 2 m, Nat.mul_comm (2 ^ m) 2, Nat.mod_mul]
    omega
theorem val_num {x n : Nat} (h : x < 2 ^ n) : val (fun i => x.testBit (n - 1 - i)) n = x := by
  rw [val_down x n n (Nat.le_refl n), Nat.sub_self, Nat.pow_zero, Nat.div_one, Nat.mod_eq_of_lt h]
theorem val_zero : ∀ n, val (fun _ => false) n = 0
  | 0 => rfl
  | n + 1 => by rw [val, val_zero n]; rfl
theorem val_shift (f : Nat → Bool) (k m : Nat) (h : ∀ i, k ≤ i → i < k + m → f i = false) : val f (k + m) = val f k * 2 ^ m := by
  rw [val_add, val_congr (g := fun _ => false) m fun i hi => h (k + i) (by omega) (by omega), val_zero, Nat.add_zero]
theorem zeros_le : ∀ n f, zeros n f ≤ n
  | 0, _ => by simp [zeros]
  | n + 1, f => by
    have := zeros_le n fun i => f (i + 1)
    rw [zeros]
    split <;> omega
theorem zeros_false : ∀ n f i, i < zeros n f → f i = false
  | 0, _, i, h => by simp [zeros] at h
  | n + 1, f, i, h => by
    rw [zeros] at h
    split at h
    · omega
    · rename_i h0
      rcases i with _ | i
      · simpa using h0
      · exact zeros_false n (fun i => f (i + 1)) i (by omega)
theorem zeros_true : ∀ n f, zeros n f < n → f (zeros n f) = true
  | 0, _, h => by omega
  | n + 1, f, h => by
    by_cases h0 : f 0 = true
    · have hz : zeros (n + 1) f = 0 := by rw [zeros, if_pos h0]
      rw [hz]; exact h0
    · have hz : zeros (n + 1) f = zeros n (fun i => f (i + 1)) + 1 := by rw [zeros, if_neg h0]; omega
      rw [hz] at h ⊢
      exact zeros_true n (fun i => f (i + 1)) (by omega)
theorem zeros_eq {n z : Nat} {f : Nat → Bool} (h1 : z ≤ n) (h2 : ∀ i, i < z → f i = false) (h3 : z < n → f z = true) : zeros n f = z := by
  have hle := zeros_le n f
  rcases Nat.lt_trichotomy (zeros n f) z with h | h | h
  · have := zeros_true n f (by omega)
    rw [h2 _ h] at this
    cases this
  · exact h
  · have := zeros_false n f z h
    rw [h3 (by omega)] at this
    cases this
theorem num_length (x n : Nat) : (num x n).length = n := by simp [num]
theorem num_getD (x n i : Nat) (h : i < n) : (num x n).getD i false = x.testBit (n - 1 - i) := by simp [num, List.getD_eq_getElem?_getD, h]
theorem testBit_high {x n i : Nat} (h : x < 2 ^ n) (hi : n ≤ i) : x.testBit i = false := Nat.testBit_lt_two_pow (Nat.lt_of_lt_of_le h (Nat.pow_le_pow_right (by omega) hi))
def Packs (l : List UInt8) (B : List Bool) : Prop := l.length = (B.length + 7) / 8 ∧ ∀ i, i < 8 * l.length → at_ l i = B.getD i false
theorem u8_ext {a b : UInt8} (h : ∀ j, j < 8 → a.toNat.testBit j = b.toNat.testBit j) : a = b := by
  apply UInt8.toNat_inj.1
  apply Nat.eq_of_testBit_eq
  intro j
  by_cases hj : j < 8
  · exact h j hj
  · rw [testBit_high (n := 8) a.toNat_lt (by omega), testBit_high (n := 8) b.toNat_lt (by omega)]
theorem getD_ext {a b : List UInt8} (h : a.length = b.length) (hx : ∀ i, i < a.length → a.getD i 0 = b.getD i 0) : a = b := by
  apply List.ext_getElem h
  intro i h1 h2
  have := hx i h1
  simpa [List.getD_eq_getElem?_getD, h1, h2] using this
theorem Packs.uniq {a b : List UInt8} {B : List Bool} (ha : Packs a B) (hb : Packs b B) : a = b := by
  have hl : a.length = b.length := ha.1.trans hb.1.symm
  refine getD_ext hl fun i hi => u8_ext fun j hj => ?_
  have h1 := ha.2 (8 * i + (7 - j)) (by omega)
  have h2 := hb.2 (8 * i + (7 - j)) (by omega)
  unfold at_ at h1 h2
  rw [show (8 * i + (7 - j)) / 8 = i by omega, show 7 - (8 * i + (7 - j)) % 8 = j by omega] at h1 h2
  rw [h1, h2]
theorem Packs.nil : Packs [] [] := ⟨by simp, fun i hi => by simp at hi⟩
theorem at_zeros (l : List UInt8) (k i : Nat) : at_ (l ++ List.replicate k 0) i = (if i < 8 * l.length then at_ l i else false) := by
  unfold at_
  by_cases h : i < 8 * l.length
  · have h1 : i / 8 < l.length := by omega
    rw [if_pos h, List.getD_eq_getElem?_getD, List.getElem?_append_left h1, List.getD_eq_getElem?_getD]
  · have h1 : l.length ≤ i / 8 := by omega
    rw [if_neg h, List.getD_eq_getElem?_getD, List.getElem?_append_right h1, List.getElem?_replicate]
    split <;> simp
theorem getD_app_right (B C : List Bool) (i : Nat) (h : B.length ≤ i) : (B ++ C).getD i false = C.getD (i - B.length) false := by
  simp only [List.getD_eq_getElem?_getD]
  rw [List.getElem?_append_right h]
theorem getD_app_left (B C : List Bool) (i : Nat) (h : i < B.length) : (B ++ C).getD i false = B.getD i false := by
  simp only [List.getD_eq_getElem?_getD]
  rw [List.getElem?_append_left h]
theorem getD_far (B : List Bool) (i : Nat) (h : B.length ≤ i) : B.getD i false = false := by
  simp only [List.getD_eq_getElem?_getD]
  rw [List.getElem?_eq_none h]; rfl
theorem getD_falses (B : List Bool) (n i : Nat) : (B ++ List.replicate n false).getD i false = B.getD i false := by
  by_cases h : i < B.length
  · exact getD_app_left _ _ _ h
  · rw [getD_app_right _ _ _ (by omega), getD_far B i (by omega), List.getD_eq_getElem?_getD, List.getElem?_replicate]
    split <;> rfl
theorem Packs.widen {l : List UInt8} {B : List Bool} (h : Packs l B) (n : Nat) : Packs (l ++ List.replicate ((B.length + n + 7) / 8 - l.length) 0) (B ++ List.replicate n false) := by
  have h1 := h.1
  refine ⟨by simp; omega, fun i hi => ?_⟩
  rw [at_zeros, getD_falses]
  by_cases hx : i < 8 * l.length
  · rw [if_pos hx]; exact h.2 i hx
  · rw [if_neg hx, getD_far B i (by omega)]
def Adds (B : List Bool) (x n : Nat) (l : List UInt8) (p : Nat) : Prop :=
  l.length = (B.length + n + 7) / 8 ∧ B.length ≤ p ∧ p ≤ B.length + n ∧ (p = B.length ∨ p % 8 = 0 ∨ p = B.length + n) ∧
  ∀ i, i < 8 * l.length → at_ l i = (if i < B.length then B.getD i false else (decide (i < p) && x.testBit (B.length + n - 1 - i)))
theorem Adds.start {l : List UInt8} {B : List Bool} (h : Packs l B) (x n : Nat) : Adds B x n (l ++ List.replicate ((B.length + n + 7) / 8 - l.length) 0) B.length := by
  have h2 := h.widen n
  have h1 := h.1
  refine ⟨by simp; omega, Nat.le_refl _, by omega, .inl rfl, fun i hi => ?_⟩
  rw [h2.2 i hi, getD_falses]
  by_cases hx : i < B.length
  · rw [if_pos hx]
  · rw [if_neg hx, getD_far B i (by omega), decide_eq_false hx]; rfl
theorem Adds.done {l : List UInt8} {B : List Bool} {x n : Nat} (h : Adds B x n l (B.length + n)) : Packs l (B ++ num x n) := by
  refine ⟨by rw [h.1, List.length_append, num_length], fun i hi => ?_⟩
  rw [h.2.2.2.2 i hi]
  by_cases h1 : i < B.length
  · rw [if_pos h1, getD_app_left _ _ _ h1]
  · rw [if_neg h1, getD_app_right _ _ _ (by omega)]
    by_cases h2 : i < B.length + n
    · rw [decide_eq_true h2, Bool.true_and, num_getD _ _ _ (by omega)]
      congr 1
      omega
    · rw [decide_eq_false h2, getD_far _ _ (by rw [num_length]; omega)]; rfl
theorem at_set (l : List UInt8) (j i : Nat) (c : UInt8) (hj : j < l.length) : at_ (l.set j c) i = (if i / 8 = j then c.toNat.testBit (7 - i % 8) else at_ l i) := by
  unfold at_
  simp only [List.getD_eq_getElem?_getD, List.getElem?_set]
  by_cases h : i / 8 = j
  · rw [if_pos h, if_pos h.symm, if_pos hj]; rfl
  · rw [if_neg h, if_neg (fun e => h e.symm)]
def mix (c : UInt8) (x s t : Nat) : UInt8 := c ||| UInt8.ofNat ((x >>> s) % 256 * 2 ^ t)
theorem mix_bit (c : UInt8) (x s t j : Nat) (hj : j < 8) : (mix c x s t).toNat.testBit j = (c.toNat.testBit j || (decide (t ≤ j) && x.testBit (s + (j - t)))) := by
  unfold mix
  rw [UInt8.toNat_or, Nat.testBit_or, UInt8.toNat_ofNat', Nat.testBit_mod_two_pow, decide_eq_true hj, Bool.true_and, Nat.testBit_mul_two_pow]
  by_cases h : t ≤ j
  · rw [decide_eq_true h, Bool.true_and, Bool.true_and, show (256 : Nat) = 2 ^ 8 from rfl, Nat.testBit_mod_two_pow, decide_eq_true (show j - t < 8 by omega), Bool.true_and, Nat.testBit_shiftRight]
  · rw [decide_eq_false h]
    simp
theorem Adds.step {l : List UInt8} {B : List Bool} {x n p k : Nat} (h : Adds B x n l p) (hx : x < 2 ^ n) (hk : k = min (B.length + n - p) (8 - p % 8)) (hp : p < B.length + n) :
    Adds B x n (l.set (p / 8) (mix (l.getD (p / 8) 0) x (B.length + n - p - k) (8 - p % 8 - k))) (p + k) := by
  obtain ⟨h1, h2, h3, h4, h5⟩ := h
  have hj : p / 8 < l.length := by omega
  refine ⟨by rw [List.length_set]; exact h1, by omega, by omega, by omega, fun i hi => ?_⟩
  rw [List.length_set] at hi
  have h5i := h5 i hi
  rw [at_set _ _ _ _ hj]
  by_cases hb : i / 8 = p / 8
  · rw [if_pos hb, mix_bit _ _ _ _ _ (by omega)]
    have hat : (l.getD (p / 8) 0).toNat.testBit (7 - i % 8) = at_ l i := by unfold at_; rw [hb]
    rw [hat, h5i]
    by_cases hi1 : i < B.length
    · rw [if_pos hi1, if_pos hi1]
      by_cases ht : 8 - p % 8 - k ≤ 7 - i % 8
      · rw [testBit_high hx (by omega)]; simp
      · simp [ht]
    · rw [if_neg hi1, if_neg hi1]
      by_cases hip : i < p
      · rw [decide_eq_true hip, decide_eq_true (show i < p + k by omega)]
        omega
      · rw [decide_eq_false hip, Bool.false_and, Bool.false_or]
        by_cases hik : i < p + k
        · rw [decide_eq_true hik, decide_eq_true (show 8 - p % 8 - k ≤ 7 - i % 8 by omega)]
          congr 2
          omega
        · rw [decide_eq_false hik, decide_eq_false (show ¬ 8 - p % 8 - k ≤ 7 - i % 8 by omega)]
          rfl
  · rw [if_neg hb, h5i]
    by_cases hi1 : i < B.length
    · rw [if_pos hi1, if_pos hi1]
    · rw [if_neg hi1, if_neg hi1]
      by_cases hip : i < p
      · rw [decide_eq_true hip, decide_eq_true (show i < p + k by omega)]
      · rw [decide_eq_false hip, decide_eq_false (show ¬ i < p + k by omega)]
theorem val_byte (l : List UInt8) (p m : Nat) (h : p % 8 + m ≤ 8) : val (fun i => at_ l (p + i)) m = (l.getD (p / 8) 0).toNat / 2 ^ (8 - p % 8 - m) % 2 ^ m := by
  rw [← val_down _ (8 - p % 8) m (by omega)]
  refine val_congr m fun i hi => ?_
  unfold at_
  rw [show (p + i) / 8 = p / 8 by omega, show 7 - (p + i) % 8 = 8 - p % 8 - 1 - i by omega]
end Bit
end Go.Proofs.Ytaohdnhfodkeoaa

namespace Go.Proofs.Ytaohdnhfodkeoaa
open Go.RowKit
namespace Bit
def lz (r : Nat) : Nat := 7 - r.log2
def up (c : UInt8) (s : Nat) : UInt8 := UInt8.ofNat (c.toNat * 2 ^ s)
theorem up_bit (c : UInt8) (s i : Nat) (hi : i < 8) (h : s + i < 8) : (up c s).toNat.testBit (7 - i) = c.toNat.testBit (7 - (s + i)) := by
  unfold up
  rw [UInt8.toNat_ofNat', Nat.testBit_mod_two_pow, decide_eq_true (show 7 - i < 8 by omega), Bool.true_and, Nat.testBit_mul_two_pow, decide_eq_true (show s ≤ 7 - i by omega), Bool.true_and]
  congr 1
  omega
theorem up_bit_low (c : UInt8) (s i : Nat) (hi : i < 8) (h : 8 ≤ s + i) : (up c s).toNat.testBit (7 - i) = false := by
  unfold up
  rw [UInt8.toNat_ofNat', Nat.testBit_mod_two_pow, Nat.testBit_mul_two_pow, decide_eq_false (show ¬ s ≤ 7 - i by omega)]
  simp
theorem lz_facts (r : UInt8) (h : r.toNat ≠ 0) : lz r.toNat < 8 ∧ (∀ i, i < lz r.toNat → r.toNat.testBit (7 - i) = false) ∧ r.toNat.testBit (7 - lz r.toNat) = true := by
  have hr := r.toNat_lt
  have h8 : r.toNat.log2 < 8 := (Nat.log2_lt h).2 hr
  unfold lz
  refine ⟨by omega, fun i hi => ?_, ?_⟩
  · apply Nat.testBit_lt_two_pow
    have h1 : r.toNat.log2 < 7 - i := by omega
    exact (Nat.log2_lt h).1 h1
  · rw [show 7 - (7 - r.toNat.log2) = r.toNat.log2 by omega]
    exact Nat.testBit_log2 h
end Bit
theorem shl_byte (c : UInt8) (s : Nat) : ((c.toNat : Int) * 2 ^ s) % 256 = ((Bit.up c s).toNat : Int) := by
  unfold Bit.up
  rw [UInt8.toNat_ofNat']
  simp only [Int.natCast_emod, Int.natCast_mul, Int.natCast_pow]
  rfl
theorem bitLen_log2 : ∀ n : Fin 256, n.val ≠ 0 → Lib.bitLen n.val = n.val.log2 + 1 := by decide +kernel
set_option maxRecDepth 100000 in
theorem len8_int_any (x : Int) (w : World) (h0 : 0 ≤ x) (h1 : x ≤ 255) : Calls Try.prog 97 #[.int .u8 x] w fun e w' => e = .returned (.int .i64 (Lib.bitLen x.toNat)) ∧ w = w' := by
  rw [← Lib.len8_int x h0 h1]
  go_enter Try.func97, Try.ntmps97
  go_wp2
  go_ret
  exact ⟨congrArg (fun v => Ending.returned (.int .i64 v)) (by simp only [wrap64]), rfl⟩
theorem len8_any (r : UInt8) (w : World) (h : r.toNat ≠ 0) : Calls Try.prog 97 #[.int .u8 (r.toNat : Int)] w fun e w' => e = .returned (.int .i64 ((r.toNat.log2 + 1 : Nat) : Int)) ∧ w = w' := by
  have hr := r.toNat_lt
  have e := bitLen_log2 ⟨r.toNat, hr⟩ h
  have C := len8_int_any (r.toNat : Int) w (by omega) (by omega)
  simp only [Int.toNat_natCast] at C e
  rw [← e]
  exact C
theorem lz8_any (r : UInt8) (w : World) (h : r.toNat ≠ 0) : Calls Try.prog 78 #[.int .u8 (r.toNat : Int)] w fun e w' => e = .returned (.int .i64 (Bit.lz r.toNat : Nat)) ∧ w = w' := by
  have h8 : r.toNat.log2 < 8 := (Nat.log2_lt h).2 r.toNat_lt
  have C := fun w => len8_any r w h
  have HL := hide (show ((Bit.lz r.toNat : Nat) : Int) = 7 - (r.toNat.log2 : Int) by unfold Bit.lz; omega)
  generalize Bit.lz r.toNat = z at *
  generalize r.toNat.log2 = L at *
  go_enter Try.func78, Try.ntmps78
  go_wp2_with (go_at_call 97; refine (C _).mono ?_; rintro e w2 ⟨rfl, rfl⟩)
  go_ret
  refine ⟨?_, rfl⟩
  rw [HL.out]
  exact congrArg (fun v => Ending.returned (.int .i64 v)) (by omega)
set_option maxHeartbeats 1000000 in
theorem zerosFrom_any {w : World} {g : Nat} {A : Option Addr} {c : Nat} {l : List UInt8} (q : Nat) (h0 : w.cell? ⟨g, 0, none⟩ = some (.slice A l.length c)) (h1 : w.cell? ⟨g, 1, none⟩ = some (.int .i64 ((8 * l.length : Nat) : Int))) (hg : g < w.heap.size) (hb : Bytes w w.heap.size A l.length l)
    (hq : q ≤ 8 * l.length) (hl : l.length ≤ 1000000000) :
    Calls Try.prog 63 #[.pointer (some ⟨g, 0, none⟩), .int .i64 q] w fun e w' => e = .returned (.int .i64 (Bit.zeros (8 * l.length - q) (fun i => Bit.at_ l (q + i)) : Nat)) ∧ Qt w w' := by
  go_enter Try.func63, Try.ntmps63
  go_wp2
  go_loopw [5, 6, 7] (fun m _ _ wr => ∃ k : Nat, q + k ≤ 8 * l.length ∧ m = .int .i64 (k : Int) ∧ (∀ i, i < k → Bit.at_ l (q + i) = false) ∧ Qt w wr) (fun m _ _ _ => 8 * l.length - (intOf m).toNat)
  case atStart => exact ⟨0, by omega, rfl, fun i hi => by omega, Qt.refl _⟩
  case round =>
    obtain ⟨k, hk, rfl, hz, hE⟩ := hrel
    have d0 := (hE.ext.cell hg).trans h0
    have d1 := (hE.ext.cell hg).trans h1
    by_cases hlt : q + k < 8 * l.length
    · obtain ⟨hll, hb'⟩ := hb
      rcases hb' with h | ⟨b, off, rfl, hB, hcells⟩
      · omega
      have hc := (hE.ext.cell hB).trans (hcells ((q + k) / 8) (by omega))
      have hup := shl_byte (l.getD ((q + k) / 8) 0) ((q + k) % 8)
      have HU1 := hide (Bit.up_bit (l.getD ((q + k) / 8) 0) ((q + k) % 8))
      have HU2 := hide (Bit.up_bit_low (l.getD ((q + k) / 8) 0) ((q + k) % 8))
      have HC := hide (show ∀ i, (q + k) % 8 + i < 8 → Bit.at_ l (q + (k + i)) = (l.getD ((q + k) / 8) 0).toNat.testBit (7 - ((q + k) % 8 + i)) from fun i hi => by
        unfold Bit.at_
        rw [show (q + (k + i)) / 8 = (q + k) / 8 by omega, show (q + (k + i)) % 8 = (q + k) % 8 + i by omega])
      generalize Bit.up (l.getD ((q + k) / 8) 0) ((q + k) % 8) = r at *
      generalize l.getD ((q + k) / 8) 0 = cc at *
      clear hcells
      have hlt' : (q : Int) + k < 8 * (l.length : Int) := by omega
      have hi8 : ((q : Int) + k) / 8 < (l.length : Int) := by omega
      by_cases hr0 : r.toNat = 0
      · have ht : (((r.toNat : Int)) != 0) = false := by simp [hr0]
        have hall : ∀ i, i < 8 - (q + k) % 8 → Bit.at_ l (q + (k + i)) = false := fun i hi => by
          rw [HC.out i (by omega), ← HU1.out i (by omega) (by omega), hr0]
          simp
        have HA := hide hall
        have HZ := hide hz
        clear hall hz hr0
        go_wp2
        go_roundw
        case rel =>
          refine ⟨k + (8 - (q + k) % 8), by omega, ?_, fun i hi => ?_, hE⟩
          · rw [show ((k : Int) + (8 - ((q : Int) + k) % 8)) = ((k + (8 - (q + k) % 8) : Nat) : Int) by omega]
          · by_cases hik : i < k
            · exact HZ.out i hik
            · have := HA.out (i - k) (by omega)
              rwa [show k + (i - k) = i by omega] at this
        case measure => simp [intOf]; omega
      · have ht : (((r.toNat : Int)) != 0) = true := by simp; omega
        obtain ⟨z8, zf, zt⟩ := Bit.lz_facts r hr0
        have hz8 : (q + k) % 8 + Bit.lz r.toNat < 8 := by
          rcases Nat.lt_or_ge ((q + k) % 8 + Bit.lz r.toNat) 8 with h | h
          · exact h
          · rw [HU2.out _ z8 h] at zt; cases zt
        have HR := hide (Bit.zeros_eq (n := 8 * l.length - q) (z := k + Bit.lz r.toNat) (f := fun i => Bit.at_ l (q + i)) (by omega) (fun i hi => by
          by_cases hik : i < k
          · exact hz i hik
          · have h1 := HC.out (i - k) (by omega)
            rw [show k + (i - k) = i by omega] at h1
            show Bit.at_ l (q + i) = false
            rw [h1, ← HU1.out (i - k) (by omega) (by omega)]
            exact zf (i - k) (by omega)) (fun _ => by
          show Bit.at_ l (q + (k + Bit.lz r.toNat)) = true
          rw [HC.out _ hz8, ← HU1.out _ z8 hz8]
          exact zt))
        have hlz : Bit.lz r.toNat ≤ 8 := by omega
        have C := fun w => lz8_any r w hr0
        have HZ := hide hz
        clear zf zt hz
        generalize Bit.lz r.toNat = z at *
        go_wp2_with (go_at_call 78; refine (C _).mono ?_; rintro e w2 ⟨rfl, rfl⟩)
        go_ret
        refine ⟨?_, hE⟩
        rw [HR.out]
        exact congrArg (fun v => Ending.returned (.int .i64 v)) (by omega)
    · have HR := hide (Bit.zeros_eq (n := 8 * l.length - q) (z := k) (f := fun i => Bit.at_ l (q + i)) (by omega) hz (fun h => by omega))
      have hge : ¬ ((q : Int) + k < 8 * (l.length : Int)) := by omega
      clear hz
      go_wp2
      go_ret
      refine ⟨?_, hE⟩
      rw [HR.out]
      exact congrArg (fun v => Ending.returned (.int .i64 v)) (by omega)
end Go.Proofs.Ytaohdnhfodkeoaa

namespace Go.Proofs.Ytaohdnhfodkeoaa
open Go.RowKit Lz Tok
theorem Tok.bitLen_small {x : Nat} (h0 : x ≠ 0) (h1 : x < 256) : Lib.bitLen x = x.log2 + 1 := bitLen_log2 ⟨x, h1⟩ h0
theorem Tok.bitLen_big {x : Nat} (h0 : 256 ≤ x) (h1 : x < 65536) : 8 + Lib.bitLen (x / 256) = x.log2 + 1 := by
  rw [bitLen_small (by omega) (by omega)]
  have h := log_le (v := x / 256) (by omega)
  have e : x.log2 = (x / 256).log2 + 8 := log_eq (by rw [Nat.pow_add]; omega) (by rw [show (x / 256).log2 + 8 + 1 = (x / 256).log2 + 1 + 8 by omega, Nat.pow_add]; omega)
  omega
set_option maxHeartbeats 1000000 in
set_option maxRecDepth 20000 in
theorem len64_low (x : Int) (w : World) (h0 : 0 ≤ x) (h1 : x ≤ 255) : Calls Try.prog 67 #[.int .u64 x] w fun e w' => e = .returned (.int .i64 (Lib.bitLen x.toNat)) ∧ w = w' := by
  rw [← Lib.len8_int x h0 h1]
  go_enter Try.func67, Try.ntmps67
  go_wp2
  go_ret
  exact ⟨congrArg (fun v => Ending.returned (.int .i64 v)) (by simp only [wrap64]; generalize Lib.len8 x = y; omega), rfl⟩
set_option maxHeartbeats 1000000 in
set_option maxRecDepth 20000 in
theorem len64_mid (x : Int) (w : World) (h0 : 256 ≤ x) (h1 : x ≤ 4095) : Calls Try.prog 67 #[.int .u64 x] w fun e w' => e = .returned (.int .i64 (8 + Lib.bitLen (x / 256).toNat)) ∧ w = w' := by
  obtain ⟨z, hz⟩ : ∃ z : Int, 8 + (Lib.bitLen (x / 256).toNat : Int) = z := ⟨_, rfl⟩
  rw [hz]
  have HZ := hide hz
  have hd0 : 0 ≤ x / 256 := by omega
  have hd1 : x / 256 ≤ 255 := by omega
  clear hz
  go_enter Try.func67, Try.ntmps67
  go_wp2
  go_ret
  refine ⟨congrArg (fun v => Ending.returned (.int .i64 v)) ?_, rfl⟩
  have h1 := Lib.len8_int (x / 256) hd0 hd1
  have h2 := Lib.bitLen_le8' (x / 256) hd0 hd1
  rw [← HZ.out]
  simp only [wrap64]
  generalize Lib.len8 (x / 256) = y at *
  omega
theorem bitsLen_any (x : Nat) (w : World) (h0 : x ≠ 0) (h1 : x ≤ 4095) : Calls Try.prog 49 #[.int .u64 (x : Int)] w fun e w' => e = .returned (.int .i64 ((x.log2 + 1 : Nat) : Int)) ∧ w = w' := by
  have C : Calls Try.prog 67 #[.int .u64 (x : Int)] w fun e w' => e = .returned (.int .i64 ((x.log2 + 1 : Nat) : Int)) ∧ w = w' := by
    by_cases h : x < 256
    · have C := len64_low (x : Int) w (by omega) (by omega)
      rw [Int.toNat_natCast, bitLen_small h0 h] at C
      exact C
    · have C := len64_mid (x : Int) w (by omega) (by omega)
      have e : ((x : Int) / 256).toNat = x / 256 := by omega
      rw [e] at C
      have e2 : (8 : Int) + (Lib.bitLen (x / 256) : Int) = ((x.log2 + 1 : Nat) : Int) := by rw [← bitLen_big (by omega) (by omega)]; omega
      rw [e2] at C
      exact C
  generalize x.log2 + 1 = k at *
  clear h0 h1
  go_enter Try.func49, Try.ntmps49
  go_wp2_with fail
  refine C.mono ?_
  rintro e w2 ⟨rfl, rfl⟩
  go_wp2
  go_ret
  exact ⟨rfl, rfl⟩
set_option maxHeartbeats 1000000 in
theorem halve_any (x : Nat) (w : World) (h0 : x ≠ 0) (h1 : x ≤ 4095) : Calls Try.prog 26 #[.int .i64 (x : Int)] w fun e w' => e = .returned (.tuple #[.int .i64 ((Nat.log2 x : Nat) : Int), .int .i64 ((x - 2 ^ Nat.log2 x : Nat) : Int)]) ∧ Ext w w' := by
  have C := fun w => bitsLen_any x w h0 h1
  have hl : x.log2 < 12 := log_lt h0 (by omega)
  have hp := log_le h0
  have HS := hide (show ((x - 2 ^ x.log2 : Nat) : Int) = (x : Int) - 2 ^ x.log2 by
    rw [Int.ofNat_sub hp.1]
    simp)
  have hp2 := pow_top (k := x.log2) (m := 11) (by omega)
  have hpI : (2 : Int) ^ x.log2 ≤ 2048 := by
    have : ((2 ^ x.log2 : Nat) : Int) ≤ 2048 := by omega
    simpa using this
  have hpI0 : (0 : Int) < (2 : Int) ^ x.log2 := by
    have := Nat.two_pow_pos x.log2
    have : (0 : Int) < ((2 ^ x.log2 : Nat) : Int) := by omega
    simpa using this
  clear hp hp2
  generalize x - 2 ^ x.log2 = r at *
  generalize x.log2 = k at *
  go_enter Try.func26, Try.ntmps26
  go_wp2_with fail
  refine (C _).mono ?_
  rintro e w2 ⟨rfl, rfl⟩
  go_wp2_with fail
  go_region
  go_wp2
  go_ret2
  exact ⟨congrArg (fun v => Ending.returned (.tuple #[.int .i64 (k : Int), .int .i64 v])) HS.out.symm, (Ext.refl _).drew⟩
end Go.Proofs.Ytaohdnhfodkeoaa

namespace Go.Proofs.Ytaohdnhfodkeoaa
open Go.RowKit
def ShutUp (md : Region.Mode) (ops : Array Oper) (listed : Array Bool) : Prop := ∀ j oj, ops[j]? = some oj → listed.getD j false = true → ∀ e ∈ oj.after, Region.binds md e = true → listed.getD e.on false = true
def shutUpB (md : Region.Mode) (ops : Array Oper) (listed : Array Bool) : Bool :=
  (List.range ops.size).all fun j => !listed.getD j false || match ops[j]? with
    | some oj => oj.after.all fun e => !Region.binds md e || listed.getD e.on false
    | none => true
theorem shutUp_of {md : Region.Mode} {ops : Array Oper} {listed : Array Bool} (h : shutUpB md ops listed = true) : ShutUp md ops listed := by
  intro j oj hj hl e he hb
  have hlt := (Array.getElem?_eq_some_iff.1 hj).1
  unfold shutUpB at h
  rw [List.all_eq_true] at h
  have h1 := h j (List.mem_range.2 hlt)
  rw [hl, hj] at h1
  simp only [Bool.not_true, Bool.false_or, Array.all_eq_true_iff_forall_mem] at h1
  have h2 := h1 e he
  rw [hb] at h2
  simpa using h2
theorem ShutUp.set {md : Region.Mode} {ops : Array Oper} {listed : Array Bool} (h : ShutUp md ops listed) {j : Nat} (hj : j ∈ Region.ready md ops listed) : ShutUp md ops (listed.setIfInBounds j true) := by
  intro k ok hk hl e he hb
  by_cases hkj : j = k
  · subst hkj
    obtain ⟨_, o, ho, hall⟩ := mem_ready.1 hj
    obtain rfl : ok = o := Option.some.inj (hk.symm.trans ho)
    exact getD_set_true (hall e he hb)
  · rw [getD_set_ne false hkj] at hl
    exact getD_set_true (h k ok hk hl e he hb)
def aheadB (md : Region.Mode) (ops : Array Oper) (n : Nat) : Nat → Nat → Bool
  | 0, i => Region.waitsFor md ops n i
  | f + 1, i => Region.waitsFor md ops n i || (List.range ops.size).any fun k => Region.waitsFor md ops k i && aheadB md ops n f k
theorem ShutUp.waits {md : Region.Mode} {ops : Array Oper} {listed : Array Bool} (h : ShutUp md ops listed) {j i : Nat} (hw : Region.waitsFor md ops j i = true) (hj : listed.getD j false = true) : listed.getD i false = true := by
  obtain ⟨oj, hoj, e, he, hb, rfl⟩ := Region.waitsFor_spec hw
  exact h j oj hoj hj e he hb
theorem ShutUp.ahead {md : Region.Mode} {ops : Array Oper} {listed : Array Bool} (h : ShutUp md ops listed) {n : Nat} (hn : listed.getD n false = true) : ∀ (f i : Nat), aheadB md ops n f i = true → listed.getD i false = true
  | 0, i, ha => h.waits ha hn
  | f + 1, i, ha => by
    unfold aheadB at ha
    rw [Bool.or_eq_true, List.any_eq_true] at ha
    rcases ha with ha | ⟨k, _, ha⟩
    · exact h.waits ha hn
    · rw [Bool.and_eq_true] at ha
      exact h.waits ha.1 (h.ahead hn f k ha.2)
section
variable {P : Program} {ops : Array Oper} {Q : Exit → Act → World → Prop} {md : Region.Mode} {S : World → Prop} {n : Nat}
def wpAnyT (P : Program) (md : Region.Mode) (ops : Array Oper) (Q : Exit → Act → World → Prop) (S : World → Prop) (n : Nat) : Nat → Array Bool → Act → World → Prop
  | 0, listed, a, w => Region.ready md ops listed = [] ∧ Q .normal a w
  | fuel + 1, listed, a, w =>
    (Region.ready md ops listed = [] → Q .normal a w) ∧
    ∀ i ∈ Region.ready md ops listed, wpOp P ops Q i (fun a' w' => ((listed.setIfInBounds i true).getD n false = false → S w') ∧ wpAnyT P md ops Q S n fuel (listed.setIfInBounds i true) a' w') a w
theorem wpAny_of_T : ∀ (fuel : Nat) (listed : Array Bool) (a : Act) (w : World), wpAnyT P md ops Q S n fuel listed a w → wpAny P md ops Q fuel listed a w
  | 0, _, _, _, h => h
  | fuel + 1, _, _, _, h => ⟨h.1, fun i hi => wpOp_mono (fun a' w' h' => wpAny_of_T fuel _ a' w' h'.2) (h.2 i hi)⟩
theorem wpAnyT_first {i : Nat} {oi : Oper} {v : Value} (hi : ops[i]? = some oi) (hsel : ∀ (j : Nat) (o : Oper) cs b, ops[j]? = some o → o.op ≠ .select cs b)
    (hQ : ∀ c a w, Q (.panic c) (a.put oi.dst v) w → Q (.panic c) a w) (hni : i ≠ n) {f : Nat} (hah : aheadB md ops n f i = true) :
    ∀ (fuel : Nat) (listed : Array Bool) (a : Act) (w : World),
      (∀ j oj, ops[j]? = some oj → j ≠ i → listed.getD j true = false → (∀ e ∈ oj.after, Region.binds md e = true → e.on ≠ i) → oi.apart ops oj = true) →
      i ∈ Region.ready md ops listed → ShutUp md ops listed → YieldsIf P ops S oi v a → S w →
      wpAnyT P md ops Q S n fuel (listed.setIfInBounds i true) (a.put oi.dst v) w → wpAnyT P md ops Q S n (fuel + 1) listed a w := by
  intro fuel
  induction fuel with
  | zero =>
    intro listed a w _ hr _ hy hS H
    refine ⟨fun h => (by rw [h] at hr; cases hr), fun j hj => ?_⟩
    by_cases hji : j = i
    · subst hji; exact hy.wpOp hi hS ⟨fun _ => hS, H⟩
    · have := ready_mono hj hji
      rw [H.1] at this
      cases this
  | succ fuel ih =>
    intro listed a w hfree hr hsh hy hS H
    refine ⟨fun h => (by rw [h] at hr; cases hr), fun j hj => ?_⟩
    by_cases hji : j = i
    · subst hji; exact hy.wpOp hi hS ⟨fun _ => hS, H⟩
    · have h1 := H.2 j (ready_mono hj hji)
      obtain ⟨hjun, oj, hoj, hall⟩ := mem_ready.1 hj
      have hiun := (mem_ready.1 hr).1
      have hiun' : listed.getD i false = false := getD_both hiun
      have hnot : ∀ e ∈ oj.after, Region.binds md e = true → e.on ≠ i := fun e he hb heq => by
        have h1 := hall e he hb
        rw [heq, hiun'] at h1
        cases h1
      have h2 := wpOp_putIf hoj (hfree j oj hoj hji hjun hnot) (fun cs b => hsel i oi cs b hi) (fun cs b => hsel j oj cs b hoj) hQ hy h1
      have hfree' : ∀ k ok, ops[k]? = some ok → k ≠ i → (listed.setIfInBounds j true).getD k true = false →
          (∀ e ∈ ok.after, Region.binds md e = true → e.on ≠ i) → oi.apart ops ok = true := fun k ok hk hki hun hno => by
        refine hfree k ok hk hki ?_ hno
        by_cases hjk : j = k
        · subst hjk; exact hjun
        · rw [getD_set_ne true hjk] at hun; exact hun
      have hsh' := hsh.set hj
      have hnun : (listed.setIfInBounds j true).getD n false = false := by
        cases hl : (listed.setIfInBounds j true).getD n false with
        | false => rfl
        | true =>
          have := hsh'.ahead hl f i hah
          rw [getD_set_ne false hji, hiun'] at this
          cases this
      refine wpOp_mono (fun a' w' h3 => ?_) h2
      have hS' : S w' := h3.2.1 (by rw [Array.setIfInBounds_comm _ _ (Ne.symm hji), getD_set_ne false hni]; exact hnun)
      refine ⟨fun _ => hS', ih (listed.setIfInBounds j true) a' w' hfree' (ready_mono hr (Ne.symm hji)) hsh' h3.1 hS' ?_⟩
      rw [Array.setIfInBounds_comm _ _ hji]
      exact h3.2.2
theorem wpAnyT_take (i : Nat) (d : Option Tmp) (v : Value) (listed' : Array Bool) {oi : Oper} {fuel : Nat} {listed : Array Bool} {a : Act} {w : World} (hi : ops[i]? = some oi) (hd : oi.dst = d) (hl : listed.setIfInBounds i true = listed')
    (hb : (Region.noSelect ops && Region.free md ops listed i && (Region.ready md ops listed).contains i && shutUpB md ops listed && aheadB md ops n ops.size i && !(i == n)) = true)
    (hQ : ∀ c a w, Q (.panic c) (a.put oi.dst v) w → Q (.panic c) a w) (hS : S w) (hw : Region.wanted oi (yielded ops a.tmps) = true) (hy : ∀ W, S W → (execOp a.eval oi).run P W = .ok (.value v) W)
    (h : wpAnyT P md ops Q S n fuel listed' (a.put d v) w) : wpAnyT P md ops Q S n (fuel + 1) listed a w := by
  subst hd
  subst hl
  simp only [Bool.and_eq_true, Bool.not_eq_true', beq_eq_false_iff_ne, ne_eq] at hb
  obtain ⟨⟨⟨⟨⟨hs, hf⟩, hr⟩, hc⟩, ha⟩, hn⟩ := hb
  exact wpAnyT_first hi (Region.noSelect_spec hs) hQ hn ha fuel listed a w (Region.free_spec hi hf) (by simpa using hr) (shutUp_of hc) (.inl ⟨hw, hy⟩) hS h
theorem wpAnyT_only (i : Nat) (listed' : Array Bool) {o : Oper} {fuel : Nat} {listed : Array Bool} {a : Act} {w : World} (hr : Region.ready md ops listed = [i]) (ho : ops[i]? = some o) (hl : listed.setIfInBounds i true = listed') (hw : Region.wanted o (yielded ops a.tmps) = true)
    (h : ∀ K' : Act → World → Prop, (∀ a w, (listed'.getD n false = false → S w) → wpAnyT P md ops Q S n fuel listed' a w → K' a w) → Oper.wp P o a w K' Q) :
    wpAnyT P md ops Q S n (fuel + 1) listed a w := by
  subst hl
  refine ⟨fun h0 => by rw [h0] at hr; simp at hr, fun j hj => ?_⟩
  rw [hr] at hj
  obtain rfl : j = i := by simpa using hj
  exact wpOp_step ho (fun K' hK => by rw [if_pos hw]; exact h K' (fun a w hS hW => hK a w ⟨hS, hW⟩))
theorem wpAnyT_done {listed : Array Bool} {a : Act} {w : World} (hr : Region.ready md ops listed = []) (h : Q .normal a w) : ∀ fuel, wpAnyT P md ops Q S n fuel listed a w
  | 0 => ⟨hr, h⟩
  | _ + 1 => ⟨fun _ => h, by rw [hr]; simp⟩
theorem wp_region_T {id : Nat} {a : Act} {w : World} (S : World → Prop) (n m : Nat) (listed : Array Bool) (hm : P.follows .mixedOrders = true) (hm' : ops.size = m) (hl : Array.replicate m false = listed) (hS : S w.drew)
    (h : S w.drew → wpAnyT P .any ops Q S n m listed a w.drew) : (Code.region id ops true).wp P Q a w :=
  wp_region_any hm (by rw [hm', hl]; exact wpAny_of_T _ _ _ _ (h hS))
end
end Go.Proofs.Ytaohdnhfodkeoaa
namespace Go.Proofs.Ytaohdnhfodkeoaa
open Go.RowKit
section
variable {P : Program} {ops : Array Oper} {Q : Exit → Act → World → Prop} {md : Region.Mode} {S : World → Prop} {n : Nat}
theorem wpAnyT_firstP {i : Nat} {oi : Oper} {v : Value} (hi : ops[i]? = some oi) (hsel : ∀ (j : Nat) (o : Oper) cs b, ops[j]? = some o → o.op ≠ .select cs b)
    (hQ : ∀ c a w, Q (.panic c) (a.put oi.dst v) w → Q (.panic c) a w) (hni : i ≠ n) :
    ∀ (fuel : Nat) (listed : Array Bool) (a : Act) (w : World),
      (∀ j oj, ops[j]? = some oj → j ≠ i → listed.getD j true = false → (∀ e ∈ oj.after, Region.binds md e = true → e.on ≠ i) → oi.apart ops oj = true) →
      i ∈ Region.ready md ops listed → YieldsIf P ops (fun _ => True) oi v a → (listed.getD n false = false → S w) →
      wpAnyT P md ops Q S n fuel (listed.setIfInBounds i true) (a.put oi.dst v) w → wpAnyT P md ops Q S n (fuel + 1) listed a w := by
  intro fuel
  induction fuel with
  | zero =>
    intro listed a w _ hr hy hS H
    refine ⟨fun h => (by rw [h] at hr; cases hr), fun j hj => ?_⟩
    by_cases hji : j = i
    · subst hji; exact hy.wpOp hi trivial ⟨fun h => hS (by rwa [getD_set_ne false hni] at h), H⟩
    · have := ready_mono hj hji
      rw [H.1] at this
      cases this
  | succ fuel ih =>
    intro listed a w hfree hr hy hS H
    refine ⟨fun h => (by rw [h] at hr; cases hr), fun j hj => ?_⟩
    by_cases hji : j = i
    · subst hji; exact hy.wpOp hi trivial ⟨fun h => hS (by rwa [getD_set_ne false hni] at h), H⟩
    · have h1 := H.2 j (ready_mono hj hji)
      obtain ⟨hjun, oj, hoj, hall⟩ := mem_ready.1 hj
      have hiun := (mem_ready.1 hr).1
      have hiun' : listed.getD i false = false := getD_both hiun
      have hnot : ∀ e ∈ oj.after, Region.binds md e = true → e.on ≠ i := fun e he hb heq => by
        have h1 := hall e he hb
        rw [heq, hiun'] at h1
        cases h1
      have h2 := wpOp_putIf hoj (hfree j oj hoj hji hjun hnot) (fun cs b => hsel i oi cs b hi) (fun cs b => hsel j oj cs b hoj) hQ hy h1
      have hfree' : ∀ k ok, ops[k]? = some ok → k ≠ i → (listed.setIfInBounds j true).getD k true = false →
          (∀ e ∈ ok.after, Region.binds md e = true → e.on ≠ i) → oi.apart ops ok = true := fun k ok hk hki hun hno => by
        refine hfree k ok hk hki ?_ hno
        by_cases hjk : j = k
        · subst hjk; exact hjun
        · rw [getD_set_ne true hjk] at hun; exact hun
      refine wpOp_mono (fun a' w' h3 => ?_) h2
      have hS' : (listed.setIfInBounds j true).getD n false = false → S w' := fun h => h3.2.1 (by rw [Array.setIfInBounds_comm _ _ (Ne.symm hji), getD_set_ne false hni]; exact h)
      refine ⟨hS', ih (listed.setIfInBounds j true) a' w' hfree' (ready_mono hr (Ne.symm hji)) h3.1 hS' ?_⟩
      rw [Array.setIfInBounds_comm _ _ hji]
      exact h3.2.2
theorem wpAnyT_pure (i : Nat) (d : Option Tmp) (v : Value) (listed' : Array Bool) {oi : Oper} {fuel : Nat} {listed : Array Bool} {a : Act} {w : World} (hi : ops[i]? = some oi) (hd : oi.dst = d) (hl : listed.setIfInBounds i true = listed')
    (hb : (Region.noSelect ops && Region.free md ops listed i && (Region.ready md ops listed).contains i && !(i == n)) = true)
    (hQ : ∀ c a w, Q (.panic c) (a.put oi.dst v) w → Q (.panic c) a w) (hS : listed.getD n false = false → S w) (hw : Region.wanted oi (yielded ops a.tmps) = true) (hy : ∀ W, (execOp a.eval oi).run P W = .ok (.value v) W)
    (h : wpAnyT P md ops Q S n fuel listed' (a.put d v) w) : wpAnyT P md ops Q S n (fuel + 1) listed a w := by
  subst hd
  subst hl
  simp only [Bool.and_eq_true, Bool.not_eq_true', beq_eq_false_iff_ne, ne_eq] at hb
  obtain ⟨⟨⟨hs, hf⟩, hr⟩, hn⟩ := hb
  exact wpAnyT_firstP hi (Region.noSelect_spec hs) hQ hn fuel listed a w (Region.free_spec hi hf) (by simpa using hr) (.inl ⟨hw, fun W _ => hy W⟩) hS h
end
end Go.Proofs.Ytaohdnhfodkeoaa

