/- Small facts that all proofs of a seat use: later worlds, slices of bytes, what a cut of a slice is. Slices of bytes that a call has made itself, and what append makes of them. Numbers as bytes, seven bits a byte: plain mathematics. Plain facts on the sum of chapter 1, over natural numbers: one shift is linear, and what bytes make of a register is what shifts make of their number. Conditions: none. Contracts of one shift, and of what the table of sixteen makes. Contracts of the loops over bytes: what bytes make of a register. Contracts of the document's own loop over bytes. Slices of slices of bytes. Contracts of the sum of parts, and of bytes. What the calls of chapter 1 give in whatever later world: the form in which the laws use them. Are two rows of bytes the same? Bytes as strings. The contract of the document's Same, of bytes as strings. Contracts of the sum as bytes, and of what is put behind bytes. What arguments that came in read as: slices of bytes, and slices of those. From what the row lists of the table to its sixteen cells; the world in which the door has laid it. A block that is known whole. Worlds that differ in one block and one row at most; append and stores, told with where what they make lies. The contracts of the library's slices.Concat at bytes (with its Grow of nothing), and of the program's All. Contracts of the document's numbers: Num, Fixed, Zig, Zag, scan. Contracts of the document's numbers: Fixed, scan, Text. Contracts of the program's numbers: Zig, Zag, Num, Text. Regions that draw their order, where one call stands behind all that is read: what is asked of the world holds till that call, not behind it. Regions that draw their order: an operation that asks nothing of the world may be taken at any time. -/
import Derived.Test.YthpbckignppaiaaGreatDoorRows
import Derived.WalkKit
import Derived.WalkSpells
import Derived.WalkLawsBesides
import Derived.Maps.AppendAt
import Derived.Lib.SlBytesConst
import Derived.ProofKit
import Derived.OpenShut
import Derived.Deep.Slices
import Derived.LaidMore
import Derived.Stop.Joined
import Derived.Lib.LaidTab
import Derived.Deep.MidRow
import Derived.Laws.Rows
import Derived.Lib.SliceRun
import Derived.Lib.AppendStr
import Derived.OrdersHeld
import Derived.StillTail
import Derived.RegionTactic
namespace Go.Proofs.YthpbckignppaiaaGreatDoor
open Go.RowKit
theorem hide {p : Prop} (h : p) : Hid p := h
theorem ret_bool {a b : Bool} (h : a = b) : Ending.returned (.bool a) = .returned (.bool b) := by rw [h]
theorem ret_u32 {a b : Int} (h : a = b) : Ending.returned (.int .u32 a) = .returned (.int .u32 b) := by rw [h]
def Ext (w W : World) : Prop := Below w.heap.size w W
theorem Ext.refl (w : World) : Ext w w := Below.refl _ _
theorem Ext.trans {a b c : World} (h : Ext a b) (k : Ext b c) : Ext a c := Below.trans h (Below.mono k h.size)
theorem Ext.drew {a b : World} (h : Ext a b) : Ext a b.drew := Below.drew h
theorem Ext.drewN {a b : World} (h : Ext a b) (n : Nat) : Ext a (b.drewN n) := ⟨h.os, h.tape, h.output, h.size, h.block⟩
theorem Ext.alloc {a b : World} (h : Ext a b) (o : Obj) : Ext a (b.alloc o) := Below.alloc h h.size o
theorem Ext.grown' {a b c : World} (h : Ext a b) (hg : b.grownBy c none) : Ext a c := Below.grown h hg h.size (fun k hk => by cases hk)
theorem Ext.setCell {a b : World} (h : Ext a b) {g i : Nat} (hg : a.heap.size ≤ g) (u : Value) : Ext a (b.setCell ⟨g, i, none⟩ u) := Below.setCell (p := ⟨g, i, none⟩) h hg u
theorem Ext.cell {a b : World} (h : Ext a b) {g i : Nat} (hp : g < a.heap.size) : b.cell? ⟨g, i, none⟩ = a.cell? ⟨g, i, none⟩ := Below.cell (p := ⟨g, i, none⟩) h hp
theorem Ext.le {a b : World} (h : Ext a b) : a.heap.size ≤ b.heap.size := h.size
theorem cellNew (w : World) (cs : Array Value) (t : TypeId) (fr : Nat × Nat) (i : Nat) : (w.alloc (.cells cs t fr)).cell? ⟨w.heap.size, i, none⟩ = cs[i]? := World.cell?_alloc_mark w cs t fr i
theorem belowNew (w : World) (o : Obj) : Below w.heap.size w (w.alloc o) := (Below.refl _ _).alloc (Nat.le_refl _) o
theorem extNew (w : World) (o : Obj) : Ext w (w.alloc o) := belowNew w o
def Bytes (w : World) (B : Nat) (A : Option Addr) (n : Nat) (l : List UInt8) : Prop :=
  l.length = n ∧ (n = 0 ∨ ∃ b off, A = some ⟨b, off, none⟩ ∧ b < B ∧ ∀ i, i < n → w.cell? ⟨b, off + i, none⟩ = some (.int .u8 ((l.getD i 0).toNat : Int)))
theorem Bytes.below {w w' : World} {B C : Nat} {A : Option Addr} {n : Nat} {l : List UInt8} (h : Bytes w B A n l) (hb : Below C w w') (hC : B ≤ C) : Bytes w' B A n l := by
  refine ⟨h.1, ?_⟩
  rcases h.2 with h0 | ⟨b, off, hA, hB, hc⟩
  · exact .inl h0
  · exact .inr ⟨b, off, hA, hB, fun i hi => by rw [hb.cell (p := ⟨b, off + i, none⟩) (Nat.lt_of_lt_of_le hB hC)]; exact hc i hi⟩
theorem Bytes.mono {w : World} {B C : Nat} {A : Option Addr} {n : Nat} {l : List UInt8} (h : Bytes w B A n l) (hC : B ≤ C) : Bytes w C A n l := by
  refine ⟨h.1, ?_⟩
  rcases h.2 with h0 | ⟨b, off, hA, hB, hc⟩
  · exact .inl h0
  · exact .inr ⟨b, off, hA, Nat.lt_of_lt_of_le hB hC, hc⟩
theorem Ext.bytes {a b : World} (h : Ext a b) {A : Option Addr} {n : Nat} {l : List UInt8} (hb : Bytes a a.heap.size A n l) : Bytes b b.heap.size A n l := (hb.below h (Nat.le_refl _)).mono h.size
theorem Bytes.take {w : World} {B : Nat} {A : Option Addr} {n : Nat} {l : List UInt8} (h : Bytes w B A n l) {k : Nat} (hk : k ≤ n) : Bytes w B A k (l.take k) := by
  refine ⟨by rw [List.length_take, h.1]; omega, ?_⟩
  rcases h.2 with h0 | ⟨b, off, hA, hB, hc⟩
  · exact .inl (by omega)
  · refine .inr ⟨b, off, hA, hB, fun i hi => ?_⟩
    rw [hc i (by omega)]
    simp [List.getD_eq_getElem?_getD, hi]
theorem Bytes.none (w : World) (B : Nat) (A : Option Addr) : Bytes w B A 0 [] := ⟨rfl, .inl rfl⟩
def cutAt (A : Option Addr) (c k : Nat) : Option Addr := if c = k then A else A.map (·.add k)
theorem Bytes.drop {w : World} {B : Nat} {A : Option Addr} {n : Nat} {l : List UInt8} (h : Bytes w B A n l) {k c : Nat} (hk : k ≤ n) (hc : n ≤ c) : Bytes w B (cutAt A c k) (n - k) (l.drop k) := by
  refine ⟨by rw [List.length_drop, h.1], ?_⟩
  by_cases hkn : k = n
  · exact .inl (by omega)
  rcases h.2 with h0 | ⟨b, off, rfl, hB, hcell⟩
  · exact .inl (by omega)
  · refine .inr ⟨b, off + k, ?_, hB, fun i hi => ?_⟩
    · simp [cutAt, show ¬ c = k by omega, Addr.add]
    · rw [Nat.add_assoc, hcell (k + i) (by omega)]
      simp [List.getD_eq_getElem?_getD]
def byteCells (l : List UInt8) : Array Value := (l.map fun c => Value.int .u8 (c.toNat : Int)).toArray
theorem bytesNew (w : World) (l : List UInt8) (cs : Array Value) (t : TypeId) (fr : Nat × Nat) (h : cs = byteCells l) (n : Nat) (hn : l.length = n) :
    Bytes (w.alloc (.cells cs t fr)) (w.alloc (.cells cs t fr)).heap.size (some ⟨w.heap.size, 0, none⟩) n l := by
  subst h
  subst hn
  refine ⟨rfl, .inr ⟨w.heap.size, 0, rfl, by simp, fun i hi => ?_⟩⟩
  rw [Nat.zero_add, World.cell?_alloc_mark]
  simp [hi, byteCells]
theorem run_cut (W : World) (a : Option Addr) (n c : Nat) (k : IntKind) (l : Int) (h0 : 0 ≤ l) (h1 : l ≤ n) :
    (Instr.slice 22 (.slice a n c) (some (.int k l)) none none).run Tryz.prog W = .ok (.slice (cutAt a c l.toNat) (n - l.toNat) (c - l.toNat)) W := by
  rw [run_slice_l (P := Tryz.prog) (w := W) 22 a n c (by kernel_rfl) k l h0 h1]
  have hs : (sizeOf (Tryz.prog.elem 22)).run Tryz.prog W = .ok 1 W := by kernel_rfl
  rw [hs]
  simp [Result.andThen, sliced, cutAt]
end Go.Proofs.YthpbckignppaiaaGreatDoor

namespace Go.Proofs.YthpbckignppaiaaGreatDoor
open Go.RowKit
def byteV (c : UInt8) : Value := .int .u8 (c.toNat : Int)
def OwnB (w : World) (base : Nat) (v : Value) (l : List UInt8) : Prop := w.ownsRow base 5 1 v l.length (l.map byteV)
theorem byte_info : (Tryz.prog.info? 5).map (fun i => (i.zero, i.size, i.bytes)) = some (some (.int .u8 0), 1, 1) := by kernel_rfl
theorem OwnB.nil (w : World) (base : Nat) : OwnB w base (.slice none 0 0) [] := World.ownsRow_nil w base _ _
theorem Ext.grown {w w' : World} (h : Ext w w') (row : Option Nat) : w.grownBy w' row := ⟨h.os, h.tape, h.output, h.size, fun i hi _ => h.block i hi⟩
theorem OwnB.empty (w : World) {base : Nat} (h : base ≤ w.heap.size) : OwnB (w.alloc (.cells #[] 5)) base (.slice (some ⟨w.heap.size, 0, none⟩) 0 0) [] :=
  World.ownsRow_made (size := 1) w #[] 0 h (by unfold maxLen; omega) (by simp)
theorem OwnB.lit (w : World) (cs : Array Value) (l : List UInt8) (n : Nat) (hcs : cs = (l.map byteV).toArray) (hn : l.length = n) (hm : n ≤ 1000) {base : Nat} (h : base ≤ w.heap.size) :
    OwnB (w.alloc (.cells cs 5)) base (.slice (some ⟨w.heap.size, 0, none⟩) n n) l := by
  subst hcs
  subst hn
  have := World.ownsRow_lit (e := 5) (size := 1) w (l.map byteV).toArray l.length h (by unfold maxLen; omega) (by simp)
  simpa [OwnB] using this
theorem OwnB.ext {w w' : World} {base : Nat} {v : Value} {l : List UInt8} (h : OwnB w base v l) (hE : Ext w w') : OwnB w' base v l :=
  World.ownsRow.kept h (hE.grown none) (by cases hv : v.ownBlock <;> simp)
theorem OwnB.form {w : World} {base : Nat} {v : Value} {l : List UInt8} (h : OwnB w base v l) :
    ∃ A c, v = .slice A l.length c ∧ l.length ≤ c ∧ c ≤ maxLen ∧ Bytes w w.heap.size A l.length l := by
  have hl := h.lt
  rcases h.2 with ⟨rfl, h0⟩ | ⟨g, cap, cur, rfl, hb, hg, hn, hc, hs, ht⟩
  · exact ⟨none, 0, by rw [h0], by omega, by unfold maxLen; omega, rfl, .inl h0⟩
  · refine ⟨_, cap, rfl, hn, hc, rfl, .inr ⟨g, 0, rfl, (hl g rfl).2, fun i hi => ?_⟩⟩
    have hk := World.ownsRow.cellAt h i (by omega)
    rw [Nat.zero_add, hk]
    simp [byteV, hi]
theorem OwnB.form' {w : World} {base : Nat} {v : Value} {l : List UInt8} (h : OwnB w base v l) : ∃ A n c, v = .slice A n c ∧ n ≤ c ∧ n ≤ l.length ∧ Bytes w w.heap.size A n l := by
  obtain ⟨A, c, hv, hc, _, hb⟩ := h.form
  exact ⟨A, _, c, hv, hc, Nat.le_refl _, hb⟩
theorem OwnB.mono {w : World} {base base' : Nat} {v : Value} {l : List UInt8} (h : OwnB w base v l) (hb : base' ≤ base) : OwnB w base' v l :=
  ⟨h.1, h.2.elim Or.inl fun ⟨g, cap, cur, hv, hg, r⟩ => Or.inr ⟨g, cap, cur, hv, Nat.le_trans hb hg, r⟩⟩
theorem run_append_zero (w : World) (ty : TypeId) (base : Nat) (v : Value) (l : List UInt8) (hown : OwnB w base v l) (A : Option Addr) (c : Nat) :
    (Builtin.append_ #[22, 22] ty #[v, .slice A 0 c]).run Tryz.prog w = .ok v w := by
  obtain ⟨i, hi, _, _, _⟩ := info_parts byte_info
  rcases hown.2 with ⟨rfl, _⟩ | ⟨g, cap, cur, rfl, _, _, hnc, _⟩
  · cases A <;> simp [Builtin.append_, run_underlying Tryz.underlying22, sizeOf, typeInfo, hi, Builtin.lenOf, Builtin.firstCells, loadCells, loadCellsFrom]
  · cases A <;> simp [Builtin.append_, run_underlying Tryz.underlying22, sizeOf, typeInfo, hi, Builtin.lenOf, Builtin.firstCells, loadCells, loadCellsFrom, hnc, storeCells]
theorem OwnB.formG {w : World} {base : Nat} {v : Value} {l : List UInt8} (h : OwnB w base v l) (hl : 0 < l.length) : ∃ g c, v = .slice (some ⟨g, 0, none⟩) l.length c ∧ base ≤ g ∧ l.length ≤ c := by
  rcases h.2 with ⟨_, h0⟩ | ⟨g, cap, _, rfl, hb, _, hn, _⟩
  · omega
  · exact ⟨g, cap, rfl, hb, hn⟩
theorem OwnB.cell {w : World} {base g n c : Nat} {l : List UInt8} (h : OwnB w base (.slice (some ⟨g, 0, none⟩) n c) l) {i : Nat} (hi : i < l.length) :
    w.cell? ⟨g, i, none⟩ = some (.int .u8 ((l.getD i 0).toNat : Int)) ∧ w.frozen? ⟨g, i, none⟩ = false := by
  have hn : n = l.length := by
    rcases h.2 with ⟨h', _⟩ | ⟨_, _, _, h', _⟩
    · simp at h'
    · simp only [Value.slice.injEq] at h'; exact h'.2.1
  subst hn
  refine ⟨?_, World.ownsRow.frozenAt h i⟩
  rw [World.ownsRow.cellAt h i (by omega)]
  simp [byteV, hi]
theorem OwnB.set {w : World} {base g n c : Nat} {l : List UInt8} (h : OwnB w base (.slice (some ⟨g, 0, none⟩) n c) l) (i : Nat) (x : UInt8) :
    OwnB (w.setCell ⟨g, i, none⟩ (.int .u8 (x.toNat : Int))) base (.slice (some ⟨g, 0, none⟩) n c) (l.set i x) := by
  have hn : n = l.length := by
    rcases h.2 with ⟨h', _⟩ | ⟨_, _, _, h', _⟩
    · simp at h'
    · simp only [Value.slice.injEq] at h'; exact h'.2.1
  subst hn
  have := (World.ownsRow.stored h i (byteV x)).1
  unfold OwnB
  rw [List.length_set, List.map_set]
  exact this
theorem app_run {w : World} (ty : TypeId) {base : Nat} {v : Value} {l : List UInt8} (hown : OwnB w base v l) {A : Option Addr} {m : Nat} {k : List UInt8} (c : Nat) (hb : Bytes w w.heap.size A m k)
    (hlen : l.length + m ≤ 140737488355328) (hbase : base ≤ w.heap.size) :
    ∃ v' w', (Builtin.append_ #[22, 22] ty #[v, .slice A m c]).run Tryz.prog w = .ok v' w' ∧ OwnB w' base v' (l ++ k) ∧ w.grownBy w' v.ownBlock := by
  obtain ⟨hk, hb⟩ := hb
  rcases hb with rfl | ⟨b, off, rfl, hB, hc⟩
  · obtain rfl := List.eq_nil_of_length_eq_zero hk
    exact ⟨v, w, run_append_zero w ty base v l hown A c, by simpa using hown, World.grownBy.refl w _⟩
  · obtain ⟨i, hi, hz, hs, hby⟩ := info_parts byte_info
    obtain ⟨v', w', hr, h2, h3, _⟩ := run_append_own (P := Tryz.prog) w base 22 ty 5 i _ 1 1 Tryz.underlying22 hi hz hs hby rfl (by omega) v l.length (l.map byteV) hown
      ⟨b, off, none⟩ m c (k.map byteV) (by simpa using hk) (by
        intro j u hu
        have hj : j < m := by
          rcases Nat.lt_or_ge j m with h | h
          · exact h
          · rw [List.getElem?_eq_none (by simp; omega)] at hu; cases hu
        have hadd : (⟨b, off, none⟩ : Addr).add j = ⟨b, off + j, none⟩ := by unfold Addr.add; split <;> simp_all
        rw [hadd, hc j hj]
        rw [List.getElem?_map, List.getElem?_eq_getElem (by omega)] at hu
        rw [List.getD_eq_getElem?_getD, List.getElem?_eq_getElem (by omega)]
        simpa [byteV] using hu) (by
        intro u hu
        obtain ⟨x, _, rfl⟩ := List.mem_map.1 hu
        rfl) (by unfold maxLen; omega) (by omega) hbase
    refine ⟨v', w', hr, ?_, h3⟩
    unfold OwnB
    rw [List.length_append, hk, List.map_append]
    exact h2
theorem wp_app {o : Oper} {a : Act} {K : Act → World → Prop} {Q : Exit → Act → World → Prop} {w : World} (s x : Operand)
    (ho : o.op = .call { callee := .builtin .append, args := #[s, x], argTypes := #[22, 22] }) {base : Nat} {v : Value} {l : List UInt8} (hs : a.eval s = v) (hown : OwnB w base v l)
    {A : Option Addr} {m c : Nat} {k : List UInt8} (hx : a.eval x = .slice A m c) (hb : Bytes w w.heap.size A m k) (hlen : l.length + m ≤ 140737488355328) (hbase : base ≤ w.heap.size)
    (h : ∀ v' w', OwnB w' base v' (l ++ k) → w.grownBy w' v.ownBlock → K (a.put o.dst v') w') : o.wp Tryz.prog a w K Q := by
  obtain ⟨v', w', hr, h2, h3⟩ := app_run o.type hown c hb hlen hbase
  unfold Oper.wp execOp
  simp only [ho, resolve, invoke, builtin, Sem.run_bind, Sem.run_pure, Result.andThen_ok, List.map_toArray, List.map_cons, List.map_nil, hs, hx, hr]
  exact h v' w' h2 h3
theorem wpList_app {ops : Array Oper} {rest : List Oper} {o : Oper} {a : Act} {Q : Exit → Act → World → Prop} {w : World} (hgd : o.guard = none) (s x : Operand)
    (ho : o.op = .call { callee := .builtin .append, args := #[s, x], argTypes := #[22, 22] }) {base : Nat} {v : Value} {l : List UInt8} (hs : a.eval s = v) (hown : OwnB w base v l)
    {A : Option Addr} {m c : Nat} {k : List UInt8} (hx : a.eval x = .slice A m c) (hb : Bytes w w.heap.size A m k) (hlen : l.length + m ≤ 140737488355328) (hbase : base ≤ w.heap.size)
    (h : ∀ v' w', OwnB w' base v' (l ++ k) → w.grownBy w' v.ownBlock → wpList Tryz.prog ops Q rest (a.put o.dst v') w') : wpList Tryz.prog ops Q (o :: rest) a w :=
  wpList_plain hgd fun _ hK => wp_app s x ho hs hown hx hb hlen hbase fun v' w' h2 h3 => hK _ _ (h v' w' h2 h3)
def MadeB (w : World) (l : List UInt8) (e : Ending) (w' : World) : Prop := ∃ v, e = .returned v ∧ OwnB w' w.heap.size v l ∧ Ext w w'
theorem OwnB.below {w0 w w' : World} {base : Nat} {v : Value} {l : List UInt8} (h : OwnB w base v l) (hb : Below base w0 w) (hg : w.grownBy w' v.ownBlock) (hbase : base ≤ w.heap.size) : Below base w0 w' :=
  hb.grown hg hbase fun k hk => (h.lt k hk).1
end Go.Proofs.YthpbckignppaiaaGreatDoor

namespace Go.Proofs.YthpbckignppaiaaGreatDoor
open Go.RowKit
namespace Num
def encF : Nat → Nat → List UInt8
  | 0, _ => []
  | f + 1, x => if x < 128 then [UInt8.ofNat x] else UInt8.ofNat (128 + x % 128) :: encF f (x / 128)
def enc (x : Nat) : List UInt8 := encF 10 x
theorem encF_small {f x : Nat} (h : x < 128) : encF (f + 1) x = [UInt8.ofNat x] := by rw [encF, if_pos h]
theorem encF_big {f x : Nat} (h : ¬ x < 128) : encF (f + 1) x = UInt8.ofNat (128 + x % 128) :: encF f (x / 128) := by rw [encF, if_neg h]
theorem encF_len : ∀ (f x : Nat), (encF f x).length ≤ f
  | 0, _ => by simp [encF]
  | f + 1, x => by
    rw [encF]
    split
    · simp
    · have := encF_len f (x / 128)
      simp; omega
theorem enc_len (x : Nat) : (enc x).length ≤ 10 := encF_len 10 x
theorem ofNat_low (y : Nat) (h : y < 256) : (UInt8.ofNat y).toNat = y := by rw [UInt8.toNat_ofNat']; exact Nat.mod_eq_of_lt h
end Num
end Go.Proofs.YthpbckignppaiaaGreatDoor

namespace Go.Proofs.YthpbckignppaiaaGreatDoor.Crc
def bit (x : Nat) : Nat := if x % 2 = 1 then (x / 2) ^^^ 3988292384 else x / 2
def run : Nat → Nat → Nat
  | 0, x => x
  | n + 1, x => run n (bit x)
def step8 (x : Nat) (b : UInt8) : Nat := run 8 (x ^^^ b.toNat)
def fold (x : Nat) (l : List UInt8) : Nat := l.foldl step8 x
theorem fold_nil (x : Nat) : fold x [] = x := List.foldl_nil
theorem fold_cons (x : Nat) (b : UInt8) (l : List UInt8) : fold x (b :: l) = fold (step8 x b) l := List.foldl_cons ..
theorem xor_mod (a b : Nat) : (a ^^^ b) % 2 = (a % 2 + b % 2) % 2 := by
  have := Nat.xor_mod_two_eq_one (a := a) (b := b)
  omega
theorem bit_xor (a b : Nat) : bit (a ^^^ b) = bit a ^^^ bit b := by
  unfold bit
  rcases Nat.mod_two_eq_zero_or_one a with ha | ha <;> rcases Nat.mod_two_eq_zero_or_one b with hb | hb <;>
    simp only [xor_mod, ha, hb, Nat.xor_div_two] <;> simp
  · ac_rfl
  · ac_rfl
  · have : a / 2 ^^^ 3988292384 ^^^ (b / 2 ^^^ 3988292384) = a / 2 ^^^ b / 2 ^^^ (3988292384 ^^^ 3988292384) := by ac_rfl
    rw [this]; simp
theorem bit_two (a : Nat) : bit (2 * a) = a := by
  unfold bit
  rw [if_neg (by omega)]; omega
theorem run_xor (n : Nat) : ∀ a b, run n (a ^^^ b) = run n a ^^^ run n b := by
  induction n with
  | zero => intro a b; rfl
  | succ n ih => intro a b; simp only [run, bit_xor, ih]
theorem run_shift (n : Nat) : ∀ a, run n (2 ^ n * a) = a := by
  induction n with
  | zero => intro a; simp [run]
  | succ n ih =>
    intro a
    rw [run, show 2 ^ (n + 1) * a = 2 * (2 ^ n * a) by rw [Nat.pow_succ]; ac_rfl, bit_two, ih]
theorem run_add (n m : Nat) : ∀ a, run (n + m) a = run m (run n a) := by
  induction n with
  | zero => intro a; simp [run]
  | succ n ih => intro a; rw [show n + 1 + m = (n + m) + 1 by omega]; simp only [run, ih]
theorem split_xor (n q r : Nat) (h : r < 2 ^ n) : 2 ^ n * q + r = (2 ^ n * q) ^^^ r := by
  apply Nat.eq_of_testBit_eq
  intro i
  rw [Nat.testBit_two_pow_mul_add _ h, Nat.testBit_xor, Nat.testBit_two_pow_mul]
  by_cases hi : i < n
  · simp [hi, show ¬ n ≤ i by omega]
  · have : r.testBit i = false := Nat.testBit_lt_two_pow (Nat.lt_of_lt_of_le h (Nat.pow_le_pow_right (by omega) (by omega)))
    simp [hi, this, show n ≤ i by omega]
theorem run_split (n q r : Nat) (h : r < 2 ^ n) : run n (2 ^ n * q + r) = q ^^^ run n r := by
  rw [split_xor n q r h, run_xor, run_shift]
theorem bit_lt {k x : Nat} (hk : 32 ≤ k) (h : x < 2 ^ (k + 1)) : bit x < 2 ^ k := by
  have h2 : x / 2 < 2 ^ k := by rw [Nat.pow_succ] at h; omega
  unfold bit
  split
  · refine Nat.xor_lt_two_pow h2 (Nat.lt_of_lt_of_le (by decide : 3988292384 < 2 ^ 32) (Nat.pow_le_pow_right (by omega) hk))
  · exact h2
theorem bit_lt32 {x : Nat} (h : x < 2 ^ 32) : bit x < 2 ^ 32 := bit_lt (k := 32) (by omega) (by rw [Nat.pow_succ]; omega)
theorem run_lt32 (n : Nat) : ∀ {x : Nat}, x < 2 ^ 32 → run n x < 2 ^ 32 := by
  induction n with
  | zero => intro x h; exact h
  | succ n ih => intro x h; exact ih (bit_lt32 h)
theorem fold_append (l k : List UInt8) : ∀ x, fold x (l ++ k) = fold (fold x l) k := by
  intro x; simp [fold, List.foldl_append]
theorem fold_lt : ∀ (l : List UInt8) (x : Nat), x < 2 ^ 32 → fold x l < 2 ^ 32 := by
  intro l
  induction l with
  | nil => intro x h; exact h
  | cons b l ih =>
    intro x h
    rw [fold_cons]
    refine ih _ (run_lt32 8 (Nat.xor_lt_two_pow h (Nat.lt_of_lt_of_le b.toNat_lt (by decide))))
def tab : List Nat := [0, 498536548, 997073096, 651767980, 1994146192, 1802195444, 1303535960, 1342533948, 3988292384, 4027552580, 3604390888, 3412177804, 2607071920, 2262029012, 2685067896, 3183342108]
theorem tab_run : ∀ r, r < 16 → tab.getD r 0 = run 4 r := by decide
theorem four (x : Nat) : x / 16 ^^^ tab.getD (x % 16) 0 = run 4 x := by
  have h := run_split 4 (x / 16) (x % 16) (by omega)
  rw [show 2 ^ 4 * (x / 16) + x % 16 = x by omega] at h
  rw [h, tab_run _ (by omega)]
end Go.Proofs.YthpbckignppaiaaGreatDoor.Crc

namespace Go.Proofs.YthpbckignppaiaaGreatDoor
open Go.RowKit
theorem Crc.bit_odd {x : Nat} (h : ((x : Int) % 2 == 1) = true) (hx : x < 4294967296) : bits .xor .u32 ((x : Int) / 2) 3988292384 = ((Crc.bit x : Nat) : Int) := by
  have h1 : x % 2 = 1 := by
    have := beq_iff_eq.1 h
    omega
  have e : (x : Int) / 2 = ((x / 2 : Nat) : Int) := by omega
  have h2 := u32_xor_nat (x / 2) 3988292384 (by omega) (by omega)
  rw [e]
  simp only [Crc.bit, if_pos h1]
  exact h2
theorem Crc.bit_even {x : Nat} (h : ((x : Int) % 2 == 1) = false) : (x : Int) / 2 = ((Crc.bit x : Nat) : Int) := by
  have h1 : ¬ x % 2 = 1 := by
    have := beq_eq_false_iff_ne.1 h
    omega
  simp only [Crc.bit, if_neg h1]
  omega
set_option maxHeartbeats 400000 in
theorem refBit_any (x : Nat) (w : World) (h : x < 4294967296) :
    Calls Tryz.prog 46 #[.int .u32 x] w fun e w' => e = .returned (.int .u32 (Crc.bit x : Nat)) ∧ w = w' := by
  go_enter Tryz.func46, Tryz.ntmps46
  go_wp2
  · go_ret
    exact ⟨ret_u32 (Crc.bit_odd ‹_› h), rfl⟩
  · go_ret
    exact ⟨ret_u32 (Crc.bit_even ‹_›), rfl⟩
theorem Crc.and15 (x : Nat) (h : x < 4294967296) : bits .and .u32 (x : Int) 15 = ((x % 16 : Nat) : Int) := by
  rw [show (15 : Int) = ((15 : Nat) : Int) from rfl, u32_and_nat x 15 h (by omega), show 15 = 2 ^ 4 - 1 from rfl, Nat.and_two_pow_sub_one_eq_mod]
def Tab (w : World) : Prop := ∀ i, i < 16 → w.cell? ⟨0, i, none⟩ = some (.int .u32 ((Crc.tab.getD i 0 : Nat) : Int))
theorem Tab.below {w w' : World} {B : Nat} (h : Tab w) (hb : Below B w w') (hB : 0 < B) : Tab w' := fun i hi => by
  rw [hb.cell (p := ⟨0, i, none⟩) hB]
  exact h i hi
theorem Crc.four_bits (x : Nat) (h : x < 4294967296) : bits .xor .u32 ((x : Int) / 16) ((Crc.tab[x % 16]?.getD 0 : Nat) : Int) = ((Crc.run 4 x : Nat) : Int) := by
  have e : (x : Int) / 16 = ((x / 16 : Nat) : Int) := by omega
  have hr : ∀ r, r < 16 → Crc.tab.getD r 0 < 4294967296 := by decide
  have f := Crc.four x
  rw [List.getD_eq_getElem?_getD] at f
  have b := hr (x % 16) (by omega)
  rw [List.getD_eq_getElem?_getD] at b
  rw [e, u32_xor_nat (x / 16) _ (by omega) b, f]
set_option maxHeartbeats 400000 in
theorem shiftByte_any (x : Nat) (w : World) (h : x < 4294967296) (ht : Tab w) :
    Calls Tryz.prog 82 #[.int .u32 x] w fun e w' => e = .returned (.int .u32 (Crc.run 8 x : Nat)) ∧ w = w' := by
  have h8 : Crc.run 8 x = Crc.run 4 (Crc.run 4 x) := Crc.run_add 4 4 x
  have hl := Crc.run_lt32 4 h
  rw [h8]
  clear h8
  have hx := Crc.four_bits x h
  have hm := Crc.and15 x h
  have h1 := ht (x % 16) (by omega)
  generalize Crc.run 4 x = y at *
  have hx2 := Crc.four_bits y hl
  have hm2 := Crc.and15 y hl
  have h2 := ht (y % 16) (by omega)
  generalize Crc.run 4 y = z at *
  go_enter Tryz.func82, Tryz.ntmps82
  go_wp2
  go_ret
  exact ⟨rfl, rfl⟩
end Go.Proofs.YthpbckignppaiaaGreatDoor

namespace Go.Proofs.YthpbckignppaiaaGreatDoor
open Go.RowKit
theorem Crc.xor_byte (r : Nat) (c : UInt8) (h : r < 4294967296) : bits .xor .u32 (r : Int) ((c.toNat : Int) % 4294967296) = ((r ^^^ c.toNat : Nat) : Int) := by
  have hc : (c.toNat : Int) % 4294967296 = (c.toNat : Int) := by have := c.toNat_lt; omega
  rw [hc]
  exact u32_xor_nat r c.toNat h (Nat.lt_trans c.toNat_lt (by decide))
theorem Crc.xor_lt (r : Nat) (c : UInt8) (h : r < 4294967296) : r ^^^ c.toNat < 4294967296 :=
  Nat.xor_lt_two_pow (n := 32) h (Nat.lt_trans c.toNat_lt (by decide))
theorem Crc.fold_take (r : Nat) (l : List UInt8) (k : Nat) (h : k < l.length) : Crc.fold r (l.take (k + 1)) = Crc.run 8 (Crc.fold r (l.take k) ^^^ (l.getD k 0).toNat) := by
  rw [List.take_succ_eq_append_getElem h, Crc.fold_append, Crc.fold_cons, Crc.fold_nil, Crc.step8, List.getD_eq_getElem?_getD, List.getElem?_eq_getElem h]
  rfl
set_option maxHeartbeats 400000 in
theorem takeBytes_any (r : Nat) (A : Option Addr) (n c : Nat) (l : List UInt8) (w : World) (h : r < 4294967296) (hn : n ≤ maxLen) (ht : Tab w) (hb : Bytes w w.heap.size A n l) :
    Calls Tryz.prog 67 #[.int .u32 r, .slice A n c] w fun e w' => e = .returned (.int .u32 (Crc.fold r l : Nat)) ∧ w = w' := by
  unfold maxLen at hn
  obtain ⟨hl, hb⟩ := hb
  rcases hb with rfl | ⟨b, off, rfl, hB, hc⟩
  · obtain rfl := List.eq_nil_of_length_eq_zero hl
    rw [Crc.fold_nil]
    go_enter Tryz.func67, Tryz.ntmps67
    go_wp2
    go_loop [0, 9] (fun x i => x = .int .u32 r ∧ i = .int .i64 0) (fun _ _ => 0)
    case atStart => exact ⟨rfl, rfl⟩
    case round =>
      obtain ⟨rfl, rfl⟩ := hrel
      go_wp2
      go_ret
      exact ⟨rfl, rfl⟩
  · go_enter Tryz.func67, Tryz.ntmps67
    go_wp2
    go_loop [0, 9] (fun x i => ∃ k : Nat, k ≤ n ∧ i = .int .i64 k ∧ x = .int .u32 (Crc.fold r (l.take k) : Nat)) (fun _ i => n - (intOf i).toNat)
    case atStart => exact ⟨0, by omega, rfl, by simp [Crc.fold_nil]⟩
    case round =>
      obtain ⟨k, hk, rfl, rfl⟩ := hrel
      by_cases hlt : k < n
      · have HS := hide (Crc.fold_take r l k (by omega))
        have hfl := Crc.fold_lt (l.take k) r h
        have hcell := hc k hlt
        clear hc
        generalize Crc.fold r (l.take k) = y at *
        have hx := Crc.xor_byte y (l.getD k 0) hfl
        have hxl := Crc.xor_lt y (l.getD k 0) hfl
        generalize l.getD k 0 = z at *
        go_wp2_with (go_at_call 82; refine (shiftByte_any _ _ hxl ht).mono ?_; rintro e w' ⟨rfl, rfl⟩)
        go_round
        case rel => exact ⟨k + 1, by omega, by go_num, by rw [HS.out]⟩
        case measure => simp [intOf]; omega
      · obtain rfl : k = n := by omega
        go_wp2
        go_ret
        exact ⟨ret_u32 (by rw [List.take_of_length_le (by omega)]), rfl⟩
end Go.Proofs.YthpbckignppaiaaGreatDoor

namespace Go.Proofs.YthpbckignppaiaaGreatDoor
open Go.RowKit
theorem Crc.not_eq (x : Nat) (h : x < 4294967296) : (4294967295 : Int) - (x : Int) = ((4294967295 - x : Nat) : Int) := by omega
set_option maxHeartbeats 400000 in
theorem refMore_any (s : Nat) (A : Option Addr) (n c : Nat) (l : List UInt8) (w : World) (h : s < 4294967296) (hn : n ≤ maxLen) (hb : Bytes w w.heap.size A n l) :
    Calls Tryz.prog 28 #[.int .u32 s, .slice A n c] w fun e w' => e = .returned (.int .u32 ((4294967295 - Crc.fold (4294967295 - s) l : Nat) : Int)) ∧ w = w' := by
  unfold maxLen at hn
  obtain ⟨hl, hb⟩ := hb
  have hs := Crc.not_eq s h
  have hs' : 4294967295 - s < 4294967296 := by omega
  generalize 4294967295 - s = r at *
  rcases hb with rfl | ⟨b, off, rfl, hB, hc⟩
  · obtain rfl := List.eq_nil_of_length_eq_zero hl
    rw [Crc.fold_nil]
    have hr := Crc.not_eq r hs'
    generalize 4294967295 - r = q at *
    go_enter Tryz.func28, Tryz.ntmps28
    go_wp2
    go_loop [5, 6, 7] (fun x i _ => x = .int .u32 r ∧ i = .int .i64 0) (fun _ _ _ => 0)
    case atStart => exact ⟨rfl, rfl⟩
    case round =>
      obtain ⟨rfl, rfl⟩ := hrel
      go_wp2
      go_ret
      exact ⟨rfl, rfl⟩
  · go_enter Tryz.func28, Tryz.ntmps28
    go_wp2
    go_loop [5, 6, 7] (fun x i _ => ∃ k : Nat, k ≤ n ∧ i = .int .i64 k ∧ x = .int .u32 (Crc.fold r (l.take k) : Nat)) (fun _ i _ => n - (intOf i).toNat)
    case atStart => exact ⟨0, by omega, rfl, by simp [Crc.fold_nil]⟩
    case round =>
      obtain ⟨k, hk, rfl, rfl⟩ := hrel
      by_cases hlt : k < n
      · have HS := hide (Crc.fold_take r l k (by omega))
        have hfl := Crc.fold_lt (l.take k) r hs'
        have hcell := hc k hlt
        clear hc
        generalize Crc.fold r (l.take k) = y at *
        have hx := Crc.xor_byte y (l.getD k 0) hfl
        have hxl := Crc.xor_lt y (l.getD k 0) hfl
        generalize l.getD k 0 = z at *
        go_wp2
        go_loop [5, 7] (fun x j => ∃ m : Nat, m ≤ 8 ∧ j = .int .i64 m ∧ x = .int .u32 (Crc.run m (y ^^^ z.toNat) : Nat)) (fun _ j => 8 - (intOf j).toNat)
        case atStart => exact ⟨0, by omega, rfl, rfl⟩
        case round =>
          obtain ⟨m, hm, rfl, rfl⟩ := hrel
          by_cases hm8 : m < 8
          · have hrl := Crc.run_lt32 m hxl
            have HR := hide (Crc.run_add m 1 (y ^^^ z.toNat))
            generalize Crc.run m (y ^^^ z.toNat) = q at *
            go_wp2_with (go_at_call 46; refine (refBit_any _ _ hrl).mono ?_; rintro e w' ⟨rfl, rfl⟩)
            go_round
            case rel => exact ⟨m + 1, by omega, by go_num, by rw [HR.out]; rfl⟩
            case measure => simp [intOf]; omega
          · obtain rfl : m = 8 := by omega
            go_wp2
            go_round
            case rel => exact ⟨k + 1, by omega, by go_num, by rw [HS.out]⟩
            case measure => simp [intOf]; omega
      · obtain rfl : k = n := by omega
        rw [List.take_of_length_le (by omega : l.length ≤ k)]
        have hf := Crc.fold_lt l r hs'
        have hr := Crc.not_eq _ hf
        go_wp2
        go_ret
        exact ⟨rfl, rfl⟩
set_option maxHeartbeats 400000 in
theorem refSum_any (A : Option Addr) (n c : Nat) (l : List UInt8) (w : World) (hn : n ≤ maxLen) (hb : Bytes w w.heap.size A n l) :
    Calls Tryz.prog 14 #[.slice A n c] w fun e w' => e = .returned (.int .u32 ((4294967295 - Crc.fold 4294967295 l : Nat) : Int)) ∧ w = w' := by
  go_enter Tryz.func14, Tryz.ntmps14
  go_wp2_with (go_at_call 28; refine (refMore_any 0 _ _ _ _ _ (by decide) hn hb).mono ?_; rintro e w' ⟨rfl, rfl⟩)
  go_ret
  exact ⟨rfl, rfl⟩
end Go.Proofs.YthpbckignppaiaaGreatDoor

namespace Go.Proofs.YthpbckignppaiaaGreatDoor
open Go.RowKit
def Parts (w : World) (B : Nat) (A : Option Addr) (n : Nat) (ls : List (List UInt8)) : Prop :=
  ls.length = n ∧ (n = 0 ∨ ∃ b off, A = some ⟨b, off, none⟩ ∧ b < B ∧ ∀ i, i < n → ∃ A' n' c', w.cell? ⟨b, off + i, none⟩ = some (.slice A' n' c') ∧ n' ≤ maxLen ∧ Bytes w B A' n' (ls.getD i []))
end Go.Proofs.YthpbckignppaiaaGreatDoor

namespace Go.Proofs.YthpbckignppaiaaGreatDoor
open Go.RowKit
def Crc.folds (x : Nat) (ls : List (List UInt8)) : Nat := Crc.fold x ls.flatten
theorem Crc.folds_take (r : Nat) (ls : List (List UInt8)) (k : Nat) (h : k < ls.length) : Crc.folds r (ls.take (k + 1)) = Crc.fold (Crc.folds r (ls.take k)) (ls.getD k []) := by
  unfold Crc.folds
  rw [List.take_succ_eq_append_getElem h, List.flatten_append, Crc.fold_append, List.getD_eq_getElem?_getD, List.getElem?_eq_getElem h]
  simp
theorem Crc.not_bits (s : Nat) (h : s < 4294967296) : bits .xor .u32 IntKind.u32.max (s : Int) = ((4294967295 - s : Nat) : Int) := by
  have hm : IntKind.u32.max = ((4294967295 : Nat) : Int) := by decide
  have e : (4294967295 : Nat) ^^^ s = 4294967295 - s := by
    have h1 := congrArg BitVec.toNat (BitVec.allOnes_xor (x := BitVec.ofNat 32 s))
    rw [BitVec.toNat_xor, BitVec.toNat_not, BitVec.toNat_ofNat, BitVec.toNat_allOnes, Nat.mod_eq_of_lt (by omega : s < 2 ^ 32)] at h1
    exact h1
  rw [hm, u32_xor_nat _ _ (by decide) h, e]
set_option maxHeartbeats 400000 in
theorem more_any (s : Nat) (A : Option Addr) (n c : Nat) (ls : List (List UInt8)) (w : World) (h : s < 4294967296) (hn : n ≤ maxLen) (ht : Tab w) (hb : Parts w w.heap.size A n ls) :
    Calls Tryz.prog 57 #[.int .u32 s, .slice A n c] w fun e w' => e = .returned (.int .u32 ((4294967295 - Crc.folds (4294967295 - s) ls : Nat) : Int)) ∧ w = w' := by
  unfold maxLen at hn
  obtain ⟨hl, hb⟩ := hb
  have hs := Crc.not_bits s h
  have hs' : 4294967295 - s < 4294967296 := by omega
  generalize 4294967295 - s = r at *
  rcases hb with rfl | ⟨b, off, rfl, hB, hc⟩
  · obtain rfl := List.eq_nil_of_length_eq_zero hl
    have hr := Crc.not_bits r hs'
    have HF := hide (show Crc.folds r [] = r from rfl)
    go_enter Tryz.func57, Tryz.ntmps57
    go_wp2
    go_loop [5, 12] (fun x i => x = .int .u32 r ∧ i = .int .i64 0) (fun _ _ => 0)
    case atStart => exact ⟨rfl, rfl⟩
    case round =>
      obtain ⟨rfl, rfl⟩ := hrel
      go_wp2
      go_ret
      exact ⟨ret_u32 (by rw [HF.out]), rfl⟩
  · go_enter Tryz.func57, Tryz.ntmps57
    go_wp2
    go_loop [5, 12] (fun x i => ∃ k : Nat, k ≤ n ∧ i = .int .i64 k ∧ x = .int .u32 (Crc.folds r (ls.take k) : Nat)) (fun _ i => n - (intOf i).toNat)
    case atStart => exact ⟨0, by omega, rfl, by simp [Crc.folds, Crc.fold_nil]⟩
    case round =>
      obtain ⟨k, hk, rfl, rfl⟩ := hrel
      have hfl := Crc.fold_lt (ls.take k).flatten r hs'
      change Crc.folds r (ls.take k) < _ at hfl
      by_cases hlt : k < n
      · have HS := hide (Crc.folds_take r ls k (by omega))
        obtain ⟨A', n', c', hcell, hn', hby⟩ := hc k hlt
        clear hc
        generalize Crc.folds r (ls.take k) = y at *
        generalize ls.getD k [] = z at *
        go_wp2_with (go_at_call 67; refine (takeBytes_any _ _ _ _ _ _ hfl hn' ht hby).mono ?_; rintro e w' ⟨rfl, rfl⟩)
        go_round
        case rel => exact ⟨k + 1, by omega, by go_num, by rw [HS.out]⟩
        case measure => simp [intOf]; omega
      · obtain rfl : k = n := by omega
        rw [List.take_of_length_le (by omega : ls.length ≤ k)] at *
        have hr := Crc.not_bits _ hfl
        go_wp2
        go_ret
        exact ⟨rfl, rfl⟩
theorem Parts.one {w : World} {A : Option Addr} {n c : Nat} {l : List UInt8} (t : TypeId) (hn : n ≤ maxLen) (hb : Bytes w w.heap.size A n l) :
    Parts (w.alloc (.cells #[.slice A n c] t)) (w.alloc (.cells #[.slice A n c] t)).heap.size (some ⟨w.heap.size, 0, none⟩) 1 [l] := by
  refine ⟨rfl, .inr ⟨w.heap.size, 0, rfl, by simp, fun i hi => ?_⟩⟩
  obtain rfl : i = 0 := by omega
  exact ⟨A, n, c, cellNew w _ t _ 0, hn, (hb.below (belowNew w _) (Nat.le_refl _)).mono (by simp)⟩
def Crc.sum (l : List UInt8) : Nat := 4294967295 - Crc.fold 4294967295 l
set_option maxHeartbeats 400000 in
theorem sum_any (A : Option Addr) (n c : Nat) (l : List UInt8) (w : World) (hn : n ≤ maxLen) (h0 : 0 < w.heap.size) (ht : Tab w) (hb : Bytes w w.heap.size A n l) :
    Calls Tryz.prog 39 #[.slice A n c] w fun e w' => e = .returned (.int .u32 (Crc.sum l : Nat)) ∧ Below w.heap.size w w' := by
  have hp := Parts.one (c := c) 22 hn hb
  have ht' := ht.below (belowNew w (.cells #[.slice A n c] 22)) h0
  have HS := hide (show Crc.sum l = 4294967295 - Crc.folds 4294967295 [l] by simp [Crc.sum, Crc.folds])
  have hbl := belowNew w (.cells #[.slice A n c] 22)
  go_enter Tryz.func39, Tryz.ntmps39
  go_wp2_with (go_at_call 57; refine (more_any 0 _ _ _ _ _ (by decide) (by decide) ht' hp).mono ?_; rintro e w' ⟨rfl, rfl⟩)
  go_ret
  exact ⟨ret_u32 (by rw [HS.out]), hbl⟩
end Go.Proofs.YthpbckignppaiaaGreatDoor

namespace Go.Proofs.YthpbckignppaiaaGreatDoor
open Go.RowKit
theorem Ext.tab {a b : World} (h : Ext a b) (ht : Tab a) (h0 : 0 < a.heap.size) : Tab b := ht.below h h0
def Gives (w : World) (f : Nat) (args : Array Value) (v : Value) : Prop := ∀ W, Ext w W → Calls Tryz.prog f args W fun e w' => e = .returned v ∧ Ext w w' ∧ Ext W w'
theorem sum_gives {w : World} {A : Option Addr} {n : Nat} {l : List UInt8} (c : Nat) (hn : n ≤ maxLen) (h0 : 0 < w.heap.size) (ht : Tab w) (hb : Bytes w w.heap.size A n l) :
    Gives w 39 #[.slice A n c] (.int .u32 (Crc.sum l : Nat)) := fun _ h =>
  (sum_any A n c l _ hn (Nat.lt_of_lt_of_le h0 h.size) (h.tab ht h0) (h.bytes hb)).mono fun _ _ ⟨he, hw⟩ => ⟨he, h.trans hw, hw⟩
theorem refSum_gives {w : World} {A : Option Addr} {n : Nat} {l : List UInt8} (c : Nat) (hn : n ≤ maxLen) (hb : Bytes w w.heap.size A n l) :
    Gives w 14 #[.slice A n c] (.int .u32 (Crc.sum l : Nat)) := fun W h =>
  (refSum_any A n c l _ hn (h.bytes hb)).mono fun _ _ ⟨he, hw⟩ => ⟨he, hw ▸ h, hw ▸ Ext.refl W⟩
theorem Crc.sum_le (l : List UInt8) : Crc.sum l ≤ 4294967295 := by unfold Crc.sum; omega
def Part (w : World) (v : Value) (l : List UInt8) : Prop := ∃ A n c, v = .slice A n c ∧ n ≤ maxLen ∧ Bytes w w.heap.size A n l
def Laid (W : World) (g : Nat) (vs : List Value) : Prop := g < W.heap.size ∧ ∀ i, i < vs.length → W.cell? ⟨g, i, none⟩ = some (vs.getD i undef)
theorem Laid.new (w : World) (vs : List Value) (t : TypeId) : Laid (w.alloc (.cells vs.toArray t)) w.heap.size vs :=
  ⟨by simp, fun i hi => by rw [cellNew]; simp [hi]⟩
theorem parts_at {w W : World} {g n : Nat} {vs : List Value} {ls : List (List UInt8)} (h : Ext w W) (hn : vs.length = n) (hl : ls.length = n) (hg : Laid W g vs)
    (hp : ∀ i, i < n → Part w (vs.getD i undef) (ls.getD i [])) : Parts W W.heap.size (some ⟨g, 0, none⟩) n ls := by
  refine ⟨hl, .inr ⟨g, 0, rfl, hg.1, fun i hi => ?_⟩⟩
  obtain ⟨A, n', c', hv, hn', hb⟩ := hp i hi
  exact ⟨A, n', c', by rw [Nat.zero_add, hg.2 i (by omega), hv], hn', h.bytes hb⟩
end Go.Proofs.YthpbckignppaiaaGreatDoor

namespace Go.Proofs.YthpbckignppaiaaGreatDoor
open Go.RowKit
def sameB (a b : List UInt8) : Bool := decide (a = b)
theorem sameB_true {a b : List UInt8} (h : a = b) : sameB a b = true := decide_eq_true h
theorem sameB_false {a b : List UInt8} (h : a ≠ b) : sameB a b = false := decide_eq_false h
end Go.Proofs.YthpbckignppaiaaGreatDoor
namespace Go.Proofs.YthpbckignppaiaaGreatDoor
open Go.RowKit
theorem conv_bytes {w : World} {B : Nat} {A : Option Addr} {n : Nat} {l : List UInt8} (c : Nat) (h : Bytes w B A n l) (hA : A = none → n = 0) :
    (convert 22 9 (.slice A n c)).run Tryz.prog w = .ok (.string ⟨l.toArray⟩) w := by
  obtain ⟨hl, hb⟩ := h
  rcases A with _ | ad
  · obtain rfl := hA rfl
    obtain rfl := List.eq_nil_of_length_eq_zero hl
    exact run_convert_bytes_nil w 22 5 Tryz.underlying22 Tryz.underlying5 0 c 9 Tryz.underlying9
  · subst hl
    refine run_convert_bytes_back w 22 9 5 ad c l Tryz.underlying22 Tryz.underlying5 Tryz.underlying9 fun j hj => ?_
    rcases hb with h0 | ⟨b, off, hA, _, hc⟩
    · omega
    · obtain rfl : ad = ⟨b, off, none⟩ := by injection hA
      have hadd : (⟨b, off, none⟩ : Addr).add j = ⟨b, off + j, none⟩ := by unfold Addr.add; split <;> simp_all
      rw [hadd, hc j hj, List.getD_eq_getElem?_getD, List.getElem?_eq_getElem hj]
      rfl
theorem same_beq (a b : List UInt8) : sameB a b = (a == b) := by
  by_cases h : a = b
  · rw [sameB_true h]; simp [h]
  · rw [sameB_false h]; simp [h]
end Go.Proofs.YthpbckignppaiaaGreatDoor

namespace Go.Proofs.YthpbckignppaiaaGreatDoor
open Go.RowKit
set_option maxHeartbeats 1000000 in
theorem same_any (A1 A2 : Option Addr) (n m c d : Nat) (a b : List UInt8) (w : World) (ha : Bytes w w.heap.size A1 n a) (hb : Bytes w w.heap.size A2 m b) :
    Calls Tryz.prog 7 #[.slice A1 n c, .slice A2 m d] w fun e w' => e = .returned (.bool (sameB a b)) ∧ Ext w w' := by
  have h1 := conv_bytes c ha (fun h => by subst h; rcases ha.2 with h | ⟨_, _, h, _⟩; exact h; cases h)
  have h2 := conv_bytes d hb (fun h => by subst h; rcases hb.2 with h | ⟨_, _, h, _⟩; exact h; cases h)
  clear ha hb
  go_enter Tryz.func7, Tryz.ntmps7
  go_wp2
  go_ret
  exact ⟨ret_bool (same_beq a b).symm, Ext.refl _⟩
end Go.Proofs.YthpbckignppaiaaGreatDoor

namespace Go.Proofs.YthpbckignppaiaaGreatDoor
open Go.RowKit
def Crc.tail (s : Nat) : List UInt8 := [UInt8.ofNat s, UInt8.ofNat (s / 256), UInt8.ofNat (s / 65536), UInt8.ofNat (s / 16777216)]
def Crc.put (l : List UInt8) : List UInt8 := l ++ Crc.tail (Crc.sum l)
theorem byteV_of (x : Nat) : byteV (UInt8.ofNat x) = .int .u8 ((x : Int) % 256) := by
  unfold byteV
  rw [UInt8.toNat_ofNat']
  simp
theorem Crc.tail_cells (s : Nat) (h : s < 4294967296) : #[Value.int .u8 ((s : Int) % 256), Value.int .u8 ((s : Int) / 256 % 256), Value.int .u8 ((s : Int) / 65536 % 256), Value.int .u8 ((s : Int) / 16777216)] = ((Crc.tail s).map byteV).toArray := by
  have e : (s : Int) / 16777216 = (s : Int) / 16777216 % 256 := by omega
  rw [e]
  simp [Crc.tail, byteV_of]
set_option maxHeartbeats 400000 in
theorem sumAsBytes_any (s : Nat) (w : World) (h : s < 4294967296) :
    Calls Tryz.prog 38 #[.int .u32 s] w (MadeB w (Crc.tail s)) := by
  have ho := OwnB.lit w _ (Crc.tail s) 4 (Crc.tail_cells s h) rfl (by omega) (Nat.le_refl _)
  have HO := hide ho
  clear ho
  go_enter Tryz.func38, Tryz.ntmps38
  go_wp2
  go_ret
  exact ⟨_, rfl, HO.out, extNew _ _⟩
set_option maxHeartbeats 1000000 in
theorem crcPut_any (A : Option Addr) (n c : Nat) (l : List UInt8) (w : World) (hn : n ≤ 1000000) (ht : Tab w) (h0 : 0 < w.heap.size) (hb : Bytes w w.heap.size A n l) :
    Calls Tryz.prog 17 #[.slice A n c] w (MadeB w (Crc.put l)) := by
  obtain ⟨i, hi, hz, hs, hby⟩ := info_parts byte_info
  have hi4 : i.bytes * (n + 4) ≤ 281474976710656 := by rw [hby]; omega
  have hm4 : n + 4 ≤ maxLen := by unfold maxLen; omega
  have C1 := sum_gives c (by unfold maxLen; omega) h0 ht hb
  have hS := Crc.sum_le l
  have HP := hide (show Crc.put l = [] ++ l ++ Crc.tail (Crc.sum l) from rfl)
  have hll := hb.1
  generalize Crc.sum l = S at *
  go_enter Tryz.func17, Tryz.ntmps17
  go_wp2_with (first
    | (at_make; refine wpList_make_own _ rfl _ _ _ rfl w.heap.size 5 i _ 1 Tryz.underlying22 hi hz hs _ _ _ (n + 4) rfl rfl (by omega) hi4 hm4 (Nat.le_refl _) ?_; intro w1 hown1 hg1; have ho1 : OwnB w1 w.heap.size _ [] := hown1; have hE1 : Ext w w1 := (Ext.refl w).grown' hg1; have hb1 := hE1.bytes hb)
    | (at_builtin; refine wpList_app rfl (.tmp 8) (.tmp 9) rfl rfl ho1 rfl hb1 (by simp; omega) hE1.le ?_; intro v2 w2 hown2 hg2; have hE2 : Ext w w2 := ho1.below hE1 hg2 hE1.le)
    | (go_at_call 39; refine (C1 _ hE2).mono ?_; rintro e w3 ⟨rfl, hE3, hX3⟩)
    | (go_at_call 38; refine (sumAsBytes_any _ _ (by omega)).mono ?_; rintro e w4 ⟨v4, rfl, hown4, hX4⟩; obtain ⟨A4, c4, hv4, _, _, hb4⟩ := hown4.form; subst hv4; have ho4 := hown2.ext (hX3.trans hX4); have hE4 : Ext w w4 := hE3.trans hX4)
    | (at_builtin; refine wpList_app rfl (.tmp 11) (.tmp 14) rfl rfl ho4 rfl hb4 (by simp [Crc.tail]; omega) hE4.le ?_; intro v5 w5 hown5 hg5))
  go_ret
  exact ⟨v5, rfl, by rw [HP.out]; exact hown5, ho4.below hE4 hg5 hE4.le⟩
theorem Crc.step_byte (s : Nat) : ((s : Int) % 256 % 256) = (((UInt8.ofNat s).toNat : Nat) : Int) := by
  rw [UInt8.toNat_ofNat']
  simp
theorem Crc.tail_take (s k : Nat) (hk : k < 4) : (Crc.tail s).take (k + 1) = (Crc.tail s).take k ++ [UInt8.ofNat (s / 256 ^ k)] := by
  rcases (by omega : k = 0 ∨ k = 1 ∨ k = 2 ∨ k = 3) with rfl | rfl | rfl | rfl <;> simp [Crc.tail]
set_option maxHeartbeats 1000000 in
theorem refCrcPut_any (A : Option Addr) (n c : Nat) (l : List UInt8) (w : World) (hn : n ≤ 1000000) (hb : Bytes w w.heap.size A n l) :
    Calls Tryz.prog 8 #[.slice A n c] w (MadeB w (Crc.put l)) := by
  have C1 := refSum_gives c (by unfold maxLen; omega) hb
  have hS := Crc.sum_le l
  have HP := hide (show Crc.put l = l ++ (Crc.tail (Crc.sum l)).take 4 from rfl)
  have hll := hb.1
  generalize Crc.sum l = S at *
  go_enter Tryz.func8, Tryz.ntmps8
  go_wp2_with (first
    | (go_at_call 14; refine (C1 _ (Ext.refl _)).mono ?_; rintro e w1 ⟨rfl, hE1, _⟩; have ho1 := OwnB.empty w1 hE1.le; have hE2 := hE1.alloc (.cells #[] 5); have hb2 := hE2.bytes hb)
    | (at_builtin; refine wpList_app rfl (.tmp 8) (.tmp 9) rfl rfl ho1 rfl hb2 (by simp; omega) hE2.le ?_; intro v3 w3 hown3 hg3; have hE3 : Ext w w3 := ho1.below hE2 hg3 hE2.le))
  clear hg3 hb2 ho1
  simp only [List.nil_append] at hown3
  go_loopw [3, 4, 5] (fun x v i wr => ∃ k : Nat, k ≤ 4 ∧ i = .int .i64 k ∧ x = .int .u32 ((S / 256 ^ k : Nat) : Int) ∧ OwnB wr w.heap.size v (l ++ (Crc.tail S).take k) ∧ Ext w wr) (fun _ _ i _ => 4 - (intOf i).toNat)
  case atStart => exact ⟨0, by omega, rfl, by simp, by simpa using hown3, hE3⟩
  case round =>
    obtain ⟨k, hk, rfl, rfl, hown, hE⟩ := hrel
    by_cases hlt : k < 4
    · have HT := hide (Crc.tail_take S k hlt)
      have hq : S / 256 ^ k ≤ 4294967295 := Nat.le_trans (Nat.div_le_self _ _) hS
      have HQ := hide (show S / 256 ^ (k + 1) = S / 256 ^ k / 256 by rw [Nat.pow_succ, Nat.div_div_eq_div_mul])
      have hlk : (l ++ (Crc.tail S).take k).length ≤ n + 4 := by rw [List.length_append, List.length_take]; omega
      generalize S / 256 ^ k = q at *
      have hx := Crc.step_byte q
      have hoa := hown.ext (extNew wr (.cells #[.int .u8 ((UInt8.ofNat q).toNat : Int)] 5))
      have hba := bytesNew wr [UInt8.ofNat q] _ 5 (0, 0) rfl 1 rfl
      have hEa := hE.alloc (.cells #[.int .u8 ((UInt8.ofNat q).toNat : Int)] 5)
      go_wp2_with (at_builtin; refine wpList_app rfl (.tmp 15) (.tmp 19) rfl rfl hoa rfl hba (by omega) hEa.le ?_; intro v4 w4 hown4 hg4)
      have hE4 : Ext w w4 := hoa.below hEa hg4 hEa.le
      rw [List.append_assoc, ← HT.out] at hown4
      go_roundw
      case rel => exact ⟨k + 1, by omega, by go_num, by rw [HQ.out]; go_num, hown4, hE4⟩
      case measure => simp [intOf]; omega
    · obtain rfl : k = 4 := by omega
      go_wp2
      go_ret
      exact ⟨_, rfl, by rw [HP.out]; exact hown, hE⟩
end Go.Proofs.YthpbckignppaiaaGreatDoor

namespace Go.Proofs.YthpbckignppaiaaGreatDoor
open Go.ChangeShapes Go.WideShapes Go.ChangeAt Go.WideMaps Go.WideElems Go.RowKit
theorem own : ownKnob Tryz.prog.godebug = none := by kernel_rfl
theorem laidOut : laidOutB Tryz.prog = true := by kernel_rfl
theorem open_bytes_cs {H : Type} {enc : TypeId × Value → H} {W : World} {fuel : Nat} {cs : List Value} {x : DataW H × List MemPlace} (hf : DataW.trod enc Tryz.prog W 0 (fun _ => true) true fuel 22 cs = some x) :
    ∃ a n c, ∃ l : List UInt8, cs = [.slice a n c] ∧ n ≤ c ∧ c ≤ maxLen ∧ Bytes W W.heap.size a n l := by
  rcases open_ints Tryz.underlying22 Tryz.underlying5 (by kernel_rfl) hf with ⟨hcs, _⟩ | ⟨x, n, c, zs, hcs, _, hl, hm, hz, _, hcell, hwz⟩
  · exact ⟨none, 0, 0, [], hcs, by omega, by unfold maxLen; omega, Bytes.none _ _ _⟩
  · have hz' : zs.length = c := by simpa using hz
    refine ⟨some x, n, c, (zs.take n).map fun z => UInt8.ofNat z.toNat, hcs, hl, hm, by simp; omega, ?_⟩
    rcases Nat.eq_zero_or_pos n with h0 | h0
    · exact .inl h0
    obtain ⟨b, off, spot⟩ := x
    have hc0 := hcell 0 (by omega)
    have hspot : spot = none := by simpa [Addr.add] using World.cell?_spot hc0
    subst hspot
    refine .inr ⟨b, off, rfl, by simpa [Addr.add] using World.block_lt_of_cell? W _ hc0, fun i hi => ?_⟩
    have h1 := hcell i (by omega)
    have hr : 0 ≤ zs.getD i 0 ∧ zs.getD i 0 ≤ 255 := by
      have := range_u8 hwz i
      rwa [List.getD_eq_getElem?_getD]
    have e : ((((zs.take n).map fun z => UInt8.ofNat z.toNat).getD i 0).toNat : Int) = zs.getD i 0 := by
      have hi' : i < zs.length := by omega
      simp only [List.getD_eq_getElem?_getD, List.getElem?_map, List.getElem?_take, if_pos hi, List.getElem?_eq_getElem hi', Option.map_some, Option.getD_some] at hr ⊢
      rw [UInt8.toNat_ofNat']
      omega
    rw [e]
    have hadd : (⟨b, off, none⟩ : Addr).add i = ⟨b, off + i, none⟩ := by unfold Addr.add; split <;> simp_all
    rwa [hadd] at h1
theorem open_bytes {H : Type} {enc : TypeId × Value → H} {W : World} {a : Option Addr} {n c : Nat} {d : DataW H} {p : List MemPlace} (h : DataW.Trod enc Tryz.prog W 0 (fun _ => true) true 22 (.slice a n c) d p) :
    ∃ l : List UInt8, n ≤ c ∧ c ≤ maxLen ∧ Bytes W W.heap.size a n l := by
  obtain ⟨fuel, hf⟩ := h
  obtain ⟨a', n', c', l, hcs, h1, h2, h3⟩ := open_bytes_cs hf
  simp [Value.cells] at hcs
  obtain ⟨rfl, rfl, rfl⟩ := hcs
  exact ⟨l, h1, h2, h3⟩
end Go.Proofs.YthpbckignppaiaaGreatDoor

namespace Go.Proofs.YthpbckignppaiaaGreatDoor
open Go.ChangeShapes Go.WideShapes Go.ChangeAt Go.WideMaps Go.WideElems Go.RowKit
abbrev laidTab : List (String × DataW Unit) := [("firkin/crc.fourShifts", Rows.laid_firkin_crc_fourShifts)]
def tabInts : List Int := Crc.tab.map Int.ofNat
theorem door_met (os : Os) (args : Array Value) : laidMetH Tryz.prog laidTab ((World.doorLaid Tryz.prog 400 os).forCall (fun _ _ => 0) ⟨#[], args, []⟩).memory :=
  laidMetH_of_parts3 (fuel := 8) (laidMet_of_run' 8 (by kernel_rfl) (by kernel_rfl)) (by kernel_rfl) (by kernel_rfl)
theorem tab_of_laid {W : World} (h : laidMetH Tryz.prog laidTab W) : Tab W := by
  rw [MakeChecks.laidMetH_plain _ _ _ (by kernel_rfl)] at h
  have g0 : Tryz.prog.globalNamed "firkin/crc.fourShifts" = some 0 := by kernel_rfl
  have h1 : laidMet Tryz.prog (("firkin/crc.fourShifts", Lib.tabData .u32 tabInts) :: []) W := h
  have h2 := Lib.tabIs_of_head g0 (t := 154) (by kernel_rfl) Tryz.underlying154 Tryz.underlying39 (by kernel_rfl) (by kernel_rfl) h1
  intro i hi
  have h3 := World.var?_cell g0 h2 i
  rw [h3]
  have : ∀ i, i < 16 → (tabInts.map fun z => Value.int .u32 z).toArray[i]? = some (.int .u32 ((Crc.tab.getD i 0 : Nat) : Int)) := by
    intro i hi
    simp only [tabInts, List.map_map, List.getElem?_toArray, List.getElem?_map]
    have hl : Crc.tab.length = 16 := rfl
    rw [List.getD_eq_getElem?_getD, List.getElem?_eq_getElem (by omega)]
    rfl
  exact this i hi
theorem Tab.pos {w : World} (h : Tab w) : 0 < w.heap.size := World.block_lt_of_cell? w _ (h 0 (by omega))
end Go.Proofs.YthpbckignppaiaaGreatDoor

namespace Go.Proofs.YthpbckignppaiaaGreatDoor
open Go.RowKit
def Whole (w : World) (g : Nat) (t : TypeId) (cs : Array Value) : Prop := w.heap[g]? = some (.cells cs t (0, 0))
section
variable {w W : World} {g : Nat} {t : TypeId} {cs : Array Value}
theorem Whole.lt (h : Whole w g t cs) : g < w.heap.size := (Array.getElem?_eq_some_iff.1 h).1
theorem Whole.cell (h : Whole w g t cs) (i : Nat) : w.cell? ⟨g, i, none⟩ = cs[i]? := cell_of_row w g i cs t (0, 0) h
theorem Whole.frozen (h : Whole w g t cs) (i : Nat) : w.frozen? ⟨g, i, none⟩ = false := frozen_of_row w g i cs t h
theorem Whole.new (w : World) (t : TypeId) (cs : Array Value) : Whole (w.alloc (.cells cs t)) w.heap.size t cs := heap_alloc_new w _
theorem Whole.alloc (h : Whole w g t cs) (o : Obj) : Whole (w.alloc o) g t cs := (Below.heap_alloc w o g h.lt).trans h
theorem Whole.set (h : Whole w g t cs) (i : Nat) (u : Value) : Whole (w.setCell ⟨g, i, none⟩ u) g t (cs.setIfInBounds i u) := heap_setCell_same w g i cs t u h
theorem Whole.far (h : Whole w g t cs) {b : Nat} (hb : g ≠ b) (i : Nat) (u : Value) : Whole (w.setCell ⟨b, i, none⟩ u) g t cs := (Below.heap_setCell w ⟨b, i, none⟩ u g hb).trans h
theorem Whole.ext (h : Whole w g t cs) (hE : Ext w W) : Whole W g t cs := (hE.block g h.lt).trans h
theorem Whole.below {B : Nat} (h : Whole w g t cs) (hE : Below B w W) (hg : g < B) : Whole W g t cs := (hE.block g hg).trans h
theorem Whole.grown (h : Whole w g t cs) {b : Nat} (hE : w.grownBy W (some b)) (hb : g ≠ b) : Whole W g t cs := (hE.block g h.lt (by simpa using hb)).trans h
end
theorem setCells_grown (g : Nat) : ∀ (vs : List Value) (o : Nat) (w : World), w.grownBy (w.setCells g o vs) (some g) ∧ (w.setCells g o vs).heap.size = w.heap.size
  | [], _, w => ⟨World.grownBy.refl w _, rfl⟩
  | v :: r, o, w => by
    have h1 : w.grownBy (w.setCell ⟨g, o, none⟩ v) (some g) := ⟨rfl, rfl, rfl, by simp, fun k _ hk => Below.heap_setCell w ⟨g, o, none⟩ v k (fun e => hk (by rw [e]))⟩
    obtain ⟨h2, h3⟩ := setCells_grown g r (o + 1) (w.setCell ⟨g, o, none⟩ v)
    exact ⟨h1.trans h2, by show ((w.setCell ⟨g, o, none⟩ v).setCells g (o + 1) r).heap.size = _; rw [h3]; simp⟩
theorem Whole.setCells {g : Nat} {t : TypeId} : ∀ (vs : List Value) (o : Nat) (w : World) (cs : Array Value), Whole w g t cs → o + vs.length ≤ cs.size →
    ∃ cs', Whole (w.setCells g o vs) g t cs' ∧ cs'.size = cs.size ∧ (∀ i, i < o → cs'[i]? = cs[i]?) ∧ ∀ j, j < vs.length → cs'[o + j]? = vs[j]?
  | [], _, _, cs, h, _ => ⟨cs, h, rfl, fun _ _ => rfl, fun j hj => by simp at hj⟩
  | v :: r, o, w, cs, h, hl => by
    simp only [List.length_cons] at hl
    obtain ⟨cs', h1, h2, h3, h4⟩ := Whole.setCells r (o + 1) (w.setCell ⟨g, o, none⟩ v) _ (h.set o v) (by simp; omega)
    refine ⟨cs', h1, by simpa using h2, fun i hi => by rw [h3 i (by omega), Array.getElem?_setIfInBounds_ne (by omega)], fun j hj => ?_⟩
    rcases j with _ | j
    · rw [Nat.add_zero, h3 o (by omega), Array.getElem?_setIfInBounds_self_of_lt (by omega)]
      rfl
    · rw [show o + (j + 1) = o + 1 + j by omega, h4 j (by simpa using hj)]
      rfl
theorem Whole.storeAll {w : World} {g : Nat} {t : TypeId} {cs cells : Array Value} (h : Whole w g t cs) (hs : cells.size = cs.size) : Whole (w.setCells g 0 cells.toList) g t cells := by
  obtain ⟨cs', h1, h2, _, h4⟩ := Whole.setCells cells.toList 0 w cs h (by simp [hs])
  have : cs' = cells := by
    apply Array.ext_getElem?
    intro i
    by_cases hi : i < cells.size
    · have := h4 i (by simpa using hi)
      rw [Nat.zero_add] at this
      rw [this]; simp
    · rw [Array.getElem?_eq_none (by omega), Array.getElem?_eq_none (by omega)]
  rwa [this] at h1
theorem wpList_storeW {P : Program} {ops : Array Oper} {rest : List Oper} {op : Oper} {a : Act} {w : World} {Q : Exit → Act → World → Prop} (hgd : op.guard = none) (ty : TypeId) (x y : Operand) (ho : op.op = .store ty x y)
    {g : Nat} {t : TypeId} {cs cells : Array Value} (hx : a.eval x = .pointer (some ⟨g, 0, none⟩)) (hy : a.eval y = .agg cells) (hw : Whole w g t cs) (hs : cells.size = cs.size)
    (hi : (P.info? ty).map (·.size) = some cells.size) (h1 : cells.all (·.oneCell') = true)
    (h : ∀ w', Whole w' g t cells → w.grownBy w' (some g) → w'.heap.size = w.heap.size → wpList P ops Q rest (a.put op.dst undef) w') : wpList P ops Q (op :: rest) a w := by
  refine wpList_store_mid hgd ty x y ho g 0 cells hx hy (fun j hj => ?_) hi h1 (h _ (hw.storeAll hs) (setCells_grown g _ _ _).1 (setCells_grown g _ _ _).2)
  rw [Nat.zero_add]
  refine ⟨?_, hw.frozen j⟩
  rw [hw.cell j, Array.getElem?_eq_getElem (by omega)]
  rfl
end Go.Proofs.YthpbckignppaiaaGreatDoor

namespace Go.Proofs.YthpbckignppaiaaGreatDoor
open Go.RowKit
theorem ret_i64 {a b : Int} (h : a = b) : Ending.returned (.int .i64 a) = .returned (.int .i64 b) := by rw [h]
structure Mod (w w' : World) (g : Nat) (ob : Option Nat) : Prop where
  os : w'.os = w.os
  tape : w'.tape = w.tape
  output : w'.output = w.output
  size : w.heap.size ≤ w'.heap.size
  block : ∀ k, k < w.heap.size → k ≠ g → some k ≠ ob → w'.heap[k]? = w.heap[k]?
def NewOb (w : World) (ob ob' : Option Nat) : Prop := ob' = ob ∨ ∃ n, ob' = some n ∧ w.heap.size ≤ n
theorem NewOb.same (w : World) (ob : Option Nat) : NewOb w ob ob := .inl rfl
theorem NewOb.trans {a b : World} {o1 o2 o3 : Option Nat} (h : NewOb a o1 o2) (hs : a.heap.size ≤ b.heap.size) (k : NewOb b o2 o3) : NewOb a o1 o3 := by
  rcases k with rfl | ⟨n, rfl, hn⟩
  · exact h
  · exact .inr ⟨n, rfl, by omega⟩
theorem NewOb.ne {w : World} {ob ob' : Option Nat} (h : NewOb w ob ob') {g : Nat} (hg : g < w.heap.size) (ho : ob ≠ some g) : ob' ≠ some g := by
  rcases h with rfl | ⟨n, rfl, hn⟩
  · exact ho
  · intro e
    injection e with e
    omega
theorem NewOb.le {w : World} {ob ob' : Option Nat} (h : NewOb w ob ob') {b : Nat} (hb : b ≤ w.heap.size) (ho : ∀ k, ob = some k → b ≤ k) : ∀ k, ob' = some k → b ≤ k := by
  rcases h with rfl | ⟨n, rfl, hn⟩
  · exact ho
  · intro k e
    injection e with e
    omega
section
variable {a b c w w' : World} {g : Nat} {ob ob' : Option Nat}
theorem Mod.refl (w : World) (g : Nat) (ob : Option Nat) : Mod w w g ob := ⟨rfl, rfl, rfl, Nat.le_refl _, fun _ _ _ _ => rfl⟩
theorem Mod.trans (h : Mod a b g ob) (k : Mod b c g ob') (ho : NewOb a ob ob') : Mod a c g ob :=
  ⟨k.os.trans h.os, k.tape.trans h.tape, k.output.trans h.output, Nat.le_trans h.size k.size, fun i hi hg hb =>
    (k.block i (Nat.lt_of_lt_of_le hi h.size) hg (fun e => ho.ne hi (fun e' => hb e'.symm) e.symm)).trans (h.block i hi hg hb)⟩
theorem Mod.ofRow (h : w.grownBy w' (some g)) : Mod w w' g ob := ⟨h.os, h.tape, h.output, h.size, fun k hk hg _ => h.block k hk (fun e => hg (by injection e))⟩
theorem Mod.ofOwn (h : w.grownBy w' ob) : Mod w w' g ob := ⟨h.os, h.tape, h.output, h.size, fun k hk _ ho => h.block k hk ho⟩
theorem Mod.ofExt (h : Ext w w') : Mod w w' g ob := ⟨h.os, h.tape, h.output, h.size, fun k hk _ _ => h.block k hk⟩
theorem Mod.drew (w : World) : Mod w w.drew g ob := Mod.ofExt (Ext.refl w).drew
theorem Mod.below (h : Mod a b g ob) {B : Nat} (hB : B ≤ a.heap.size) (hg : B ≤ g) (ho : ∀ k, ob = some k → B ≤ k) : Below B a b :=
  ⟨h.os, h.tape, h.output, h.size, fun k hk => h.block k (by omega) (by omega) (fun e => by have := ho k e.symm; omega)⟩
theorem Mod.whole (h : Mod w w' g ob) {x : Nat} {t : TypeId} {cs : Array Value} (hw : Whole w x t cs) (hg : x ≠ g) (ho : ob ≠ some x) : Whole w' x t cs := (h.block x hw.lt hg (fun e => ho e.symm)).trans hw
theorem Mod.own (h : Mod w w' g ob) {base : Nat} {v : Value} {l : List UInt8} (hv : OwnB w base v l) (hg : v.ownBlock ≠ some g) (ho : v.ownBlock = none ∨ v.ownBlock ≠ ob) : OwnB w' base v l := by
  refine ⟨hv.1, ?_⟩
  rcases hv.2 with hn | ⟨x, cap, cur, rfl, hb, hgg, rest⟩
  · exact .inl hn
  · refine .inr ⟨x, cap, cur, rfl, hb, ?_, rest⟩
    rw [h.block x (Array.getElem?_eq_some_iff.1 hgg).1 (by intro e; subst e; simp [Value.ownBlock] at hg) (by
      intro e
      rcases ho with ho | ho
      · simp [Value.ownBlock] at ho
      · exact ho (by simpa [Value.ownBlock] using e))]
    exact hgg
end
theorem OwnB.far {w : World} {base g : Nat} {v : Value} {l : List UInt8} (h : OwnB w base v l) (hg : v.ownBlock ≠ some g) (i : Nat) (u : Value) : OwnB (w.setCell ⟨g, i, none⟩ u) base v l :=
  (Mod.ofRow (ob := none) (show w.grownBy (w.setCell ⟨g, i, none⟩ u) (some g) from ⟨rfl, rfl, rfl, by simp, fun k _ hk => Below.heap_setCell w ⟨g, i, none⟩ u k (fun e => hk (by rw [e]))⟩)).own h hg (by cases v.ownBlock <;> simp)
theorem grown_setCell (w : World) (g i : Nat) (u : Value) : w.grownBy (w.setCell ⟨g, i, none⟩ u) (some g) := ⟨rfl, rfl, rfl, by simp, fun k _ hk => Below.heap_setCell w ⟨g, i, none⟩ u k (fun e => hk (by rw [e]))⟩
theorem app_run_at {w : World} (ty : TypeId) {base : Nat} {v : Value} {l : List UInt8} (hown : OwnB w base v l) {A : Option Addr} {m : Nat} {k : List UInt8} (c : Nat) (hb : Bytes w w.heap.size A m k)
    (hlen : l.length + m ≤ 140737488355328) (hbase : base ≤ w.heap.size) :
    ∃ v' w', (Builtin.append_ #[22, 22] ty #[v, .slice A m c]).run Tryz.prog w = .ok v' w' ∧ OwnB w' base v' (l ++ k) ∧ w.grownBy w' v.ownBlock ∧ NewOb w v.ownBlock v'.ownBlock := by
  obtain ⟨hk, hb⟩ := hb
  rcases hb with rfl | ⟨b, off, rfl, hB, hc⟩
  · obtain rfl := List.eq_nil_of_length_eq_zero hk
    exact ⟨v, w, run_append_zero w ty base v l hown A c, by simpa using hown, World.grownBy.refl w _, .inl rfl⟩
  · obtain ⟨i, hi, hz, hs, hby⟩ := info_parts byte_info
    obtain ⟨v', w', hr, h2, h3, _, h5⟩ := run_append_own_at (P := Tryz.prog) w base 22 ty 5 i _ 1 1 Tryz.underlying22 hi hz hs hby rfl (by omega) v l.length (l.map byteV) hown
      ⟨b, off, none⟩ m c (k.map byteV) (by simpa using hk) (by
        intro j u hu
        have hj : j < m := by
          rcases Nat.lt_or_ge j m with h | h
          · exact h
          · rw [List.getElem?_eq_none (by simp; omega)] at hu; cases hu
        have hadd : (⟨b, off, none⟩ : Addr).add j = ⟨b, off + j, none⟩ := by unfold Addr.add; split <;> simp_all
        rw [hadd, hc j hj]
        rw [List.getElem?_map, List.getElem?_eq_getElem (by omega)] at hu
        rw [List.getD_eq_getElem?_getD, List.getElem?_eq_getElem (by omega)]
        simpa [byteV] using hu) (by
        intro u hu
        obtain ⟨x, _, rfl⟩ := List.mem_map.1 hu
        rfl) (by unfold maxLen; omega) (by omega) hbase
    refine ⟨v', w', hr, ?_, h3, h5.imp id fun h => ⟨_, h, Nat.le_refl _⟩⟩
    unfold OwnB
    rw [List.length_append, hk, List.map_append]
    exact h2
theorem zeroCells_byte (n : Nat) : Builtin.zeroCells (Value.int .u8 0).cells n = ((List.replicate n (0 : UInt8)).map byteV).toArray := by
  apply Array.ext
  · rw [size_zeroCells]; simp [Value.cells]
  · intro i h1 h2
    simp [Builtin.zeroCells, Value.cells, byteV, Nat.mod_one]
theorem app_zero_run {w : World} (ty : TypeId) {base : Nat} {v : Value} {l : List UInt8} (hown : OwnB w base v l) (n : Nat) (hlen : l.length + n ≤ 140737488355328) (hbase : base ≤ w.heap.size) :
    ∃ v' w', (Builtin.append_ #[22, 3] ty #[v, .int .i64 n]).run Tryz.prog w = .ok v' w' ∧ OwnB w' base v' (l ++ List.replicate n 0) ∧ w.grownBy w' v.ownBlock ∧ NewOb w v.ownBlock v'.ownBlock := by
  obtain ⟨i, hi, hz, hs, hby⟩ := info_parts byte_info
  have hw : IntKind.i64.wrap (n : Int) = n := by rw [IntKind.wrap_i64]; omega
  have hneg : ¬ ((n : Int) < 0) := by omega
  have hw0 : IntKind.i64.wrap 0 = 0 := by rw [IntKind.wrap_i64]; omega
  have h48i : ¬ (281474976710656 < (n : Int)) := by omega
  have hsz : Tryz.prog.info? 5 = some i := hi
  -- what the growing arm leaves
  have grown : ∀ (old : Nat), old < l.length + n → ∀ (row : Option Nat),
      OwnB (w.drew.alloc (.cells ((l.map byteV).toArray ++ Builtin.zeroCells (Value.int .u8 0).cells n ++ Builtin.zeroCells (Value.int .u8 0).cells (grownCap w (l.length + n) old 5 - (l.length + n))) 5)) base
        (.slice (some ⟨w.heap.size, 0, none⟩) (l.length + n) (grownCap w (l.length + n) old 5)) (l ++ List.replicate n 0) ∧
      w.grownBy (w.drew.alloc (.cells ((l.map byteV).toArray ++ Builtin.zeroCells (Value.int .u8 0).cells n ++ Builtin.zeroCells (Value.int .u8 0).cells (grownCap w (l.length + n) old 5 - (l.length + n))) 5)) row := by
    intro old ho row
    have hge := grownCap_ge w (l.length + n) old 5
    have hcm : grownCap w (l.length + n) old 5 ≤ maxLen := grownCap_le_maxLen w (l.length + n) old 5 (by unfold maxLen; omega)
    refine ⟨?_, ⟨rfl, rfl, rfl, by simp, fun k hk _ => Below.heap_alloc w.drew _ k hk⟩⟩
    unfold OwnB
    rw [List.length_append, List.length_replicate]
    refine ⟨by simp, .inr ⟨w.heap.size, _, _, rfl, hbase, heap_alloc_new w.drew _, hge, hcm, ?_, ?_⟩⟩
    · simp only [Array.size_append, size_zeroCells]
      simp [Value.cells]
      omega
    · rw [zeroCells_byte n, List.map_append]
      simp only [Array.toList_append, Nat.mul_one]
      rw [List.take_append_of_le_length (by simp), List.take_of_length_le (by simp)]
  rcases hown.2 with ⟨rfl, h0⟩ | ⟨g, cap, cur, rfl, hbg, hg, hnc, hcm, hcs, htake⟩
  · have hl : l = [] := List.eq_nil_of_length_eq_zero h0
    subst hl
    by_cases hn : n = 0
    · subst hn
      refine ⟨.slice none 0 0, w, ?_, by simpa using hown, World.grownBy.refl w _, .inl rfl⟩
      simp [Builtin.append_, run_underlying Tryz.underlying22, run_underlying Tryz.underlying3, sizeOf, typeInfo, hsz, asInt, asIntOf, hby, hw0]
    · have h48' : ¬ (281474976710656 < Builtin.nextslicecap n 0) := by rw [nextslicecap_zero (by omega)]; omega
      have h63' : ¬ (9223372036854775807 < (n : Int)) := by omega
      have hgr := grown 0 (by simp; omega) (Value.ownBlock (.slice none 0 0))
      simp only [List.length_nil, Nat.zero_add, List.map_nil, List.nil_append, Array.empty_append] at hgr ⊢
      refine ⟨_, _, ?_, hgr.1, hgr.2, .inr ⟨_, rfl, Nat.le_refl _⟩⟩
      simp [Builtin.append_, run_underlying Tryz.underlying22, run_underlying Tryz.underlying3, sizeOf, typeInfo, zeroValue, hsz, hz, asInt, asIntOf, hs, hby, hw, hneg, h48i, hn, h48', h63', Question.forced, run_firstCells_none, newRow, grownCap]
  · by_cases hroom : l.length + n ≤ cap
    · by_cases hn : n = 0
      · subst hn
        refine ⟨_, w, ?_, by simpa using hown, World.grownBy.refl w _, .inl rfl⟩
        simp [Builtin.append_, run_underlying Tryz.underlying22, run_underlying Tryz.underlying3, sizeOf, typeInfo, hsz, asInt, asIntOf, hw0, hnc, storeCells]
      have hst := run_storeCells_at Tryz.prog g l.length 5 ((List.replicate n (0 : UInt8)).map byteV) 0 cur w hg (by simp; omega) (by
        intro u hu
        obtain ⟨x, _, rfl⟩ := List.mem_map.1 hu
        rfl)
      have hsr := setRow_heap w g cur ((cur.toList.take (l.length + 0) ++ (List.replicate n (0 : UInt8)).map byteV ++ cur.toList.drop (l.length + 0 + ((List.replicate n (0 : UInt8)).map byteV).length)).toArray) _ _ hg
      have hzc : (Builtin.zeroCells (Value.int .u8 0).cells n).toList = (List.replicate n (0 : UInt8)).map byteV := by rw [zeroCells_byte]
      refine ⟨.slice (some ⟨g, 0, none⟩) (l.length + n) cap, w.setRow g ((cur.toList.take (l.length + 0) ++ (List.replicate n (0 : UInt8)).map byteV ++ cur.toList.drop (l.length + 0 + ((List.replicate n (0 : UInt8)).map byteV).length)).toArray), ?_, ?_,
        ⟨rfl, rfl, rfl, by simp, fun k _ hk => setRow_other w g k _ (fun e => hk (by simp [Value.ownBlock, e]))⟩, .inl rfl⟩
      · simp [Builtin.append_, run_underlying Tryz.underlying22, run_underlying Tryz.underlying3, sizeOf, typeInfo, zeroValue, hsz, hz, asInt, asIntOf, hs, hby, hw, hneg, h48i, hn, hroom, Addr.add_lit, hzc, -List.map_replicate]
        rw [hst]
        simp [-List.map_replicate]
      · unfold OwnB
        rw [List.length_append, List.length_replicate]
        refine ⟨by simp, .inr ⟨g, cap, _, rfl, hbg, hsr, hroom, hcm, ?_, ?_⟩⟩
        · simp; omega
        · rw [Nat.mul_one] at htake
          rw [Nat.add_zero, htake, List.map_append, Nat.mul_one]
          rw [List.take_append_of_le_length (by simp), List.take_of_length_le (by simp)]
    · have hlo : (l.map byteV).length = l.length * i.size := by rw [hs]; simp
      have hfo := run_firstCells_some (P := Tryz.prog) w.drew i.size l.length ⟨g, 0, none⟩ l.length cap (l.map byteV) hlo (by simpa using hown.cells (g := g) rfl)
      have hgr := grown cap (by omega) (Value.ownBlock (.slice (some ⟨g, 0, none⟩) l.length cap))
      have hn : n ≠ 0 := by omega
      have h63' : ¬ (9223372036854775807 < ((l.length : Int) + (n : Int))) := by omega
      have h48' : ¬ (281474976710656 < Builtin.nextslicecap (l.length + n) cap) := by
        have := growslice_fits (need := l.length + n) (old := cap) (bytes := 1) (by omega) (by omega)
        omega
      refine ⟨_, _, ?_, hgr.1, hgr.2, .inr ⟨_, rfl, Nat.le_refl _⟩⟩
      simp [Builtin.append_, run_underlying Tryz.underlying22, run_underlying Tryz.underlying3, sizeOf, typeInfo, zeroValue, hsz, hz, asInt, asIntOf, hs, hby, hw, hneg, h48i, hn, hroom, h63', h48', Question.forced, newRow, grownCap]
      rw [hs] at hfo
      simp [hfo]
section
variable {o : Oper} {a : Act} {K : Act → World → Prop} {Q : Exit → Act → World → Prop} {w : World} {base : Nat} {v : Value} {l : List UInt8}
theorem wp_appAt (s x : Operand) (ho : o.op = .call { callee := .builtin .append, args := #[s, x], argTypes := #[22, 22] }) (hs : a.eval s = v) (hown : OwnB w base v l)
    {A : Option Addr} {m c : Nat} {k : List UInt8} (hx : a.eval x = .slice A m c) (hb : Bytes w w.heap.size A m k) (hlen : l.length + m ≤ 140737488355328) (hbase : base ≤ w.heap.size)
    (h : ∀ v' w', OwnB w' base v' (l ++ k) → w.grownBy w' v.ownBlock → NewOb w v.ownBlock v'.ownBlock → K (a.put o.dst v') w') : o.wp Tryz.prog a w K Q := by
  obtain ⟨v', w', hr, h2, h3, h4⟩ := app_run_at o.type hown c hb hlen hbase
  unfold Oper.wp execOp
  simp only [ho, resolve, invoke, builtin, Sem.run_bind, Sem.run_pure, Result.andThen_ok, List.map_toArray, List.map_cons, List.map_nil, hs, hx, hr]
  exact h v' w' h2 h3 h4
theorem wp_zerosAt (s x : Operand) (ho : o.op = .call { callee := .builtin .append, args := #[s, x], argTypes := #[22, 3] }) (hs : a.eval s = v) (hown : OwnB w base v l)
    (n : Nat) (hx : a.eval x = .int .i64 n) (hlen : l.length + n ≤ 140737488355328) (hbase : base ≤ w.heap.size)
    (h : ∀ v' w', OwnB w' base v' (l ++ List.replicate n 0) → w.grownBy w' v.ownBlock → NewOb w v.ownBlock v'.ownBlock → K (a.put o.dst v') w') : o.wp Tryz.prog a w K Q := by
  obtain ⟨v', w', hr, h2, h3, h4⟩ := app_zero_run o.type hown n hlen hbase
  unfold Oper.wp execOp
  simp only [ho, resolve, invoke, builtin, Sem.run_bind, Sem.run_pure, Result.andThen_ok, List.map_toArray, List.map_cons, List.map_nil, hs, hx, hr]
  exact h v' w' h2 h3 h4
theorem wpList_appAt {ops : Array Oper} {rest : List Oper} (hgd : o.guard = none) (s x : Operand) (ho : o.op = .call { callee := .builtin .append, args := #[s, x], argTypes := #[22, 22] }) (hs : a.eval s = v) (hown : OwnB w base v l)
    {A : Option Addr} {m c : Nat} {k : List UInt8} (hx : a.eval x = .slice A m c) (hb : Bytes w w.heap.size A m k) (hlen : l.length + m ≤ 140737488355328) (hbase : base ≤ w.heap.size)
    (h : ∀ v' w', OwnB w' base v' (l ++ k) → w.grownBy w' v.ownBlock → NewOb w v.ownBlock v'.ownBlock → wpList Tryz.prog ops Q rest (a.put o.dst v') w') : wpList Tryz.prog ops Q (o :: rest) a w :=
  wpList_plain hgd fun _ hK => wp_appAt s x ho hs hown hx hb hlen hbase fun v' w' h2 h3 h4 => hK _ _ (h v' w' h2 h3 h4)
theorem step_appAt {ops : Array Oper} {E : Prop} (hgd : o.guard = none) (s x : Operand) (ho : o.op = .call { callee := .builtin .append, args := #[s, x], argTypes := #[22, 22] }) (hs : a.eval s = v) (hown : OwnB w base v l)
    {A : Option Addr} {m c : Nat} {k : List UInt8} (hx : a.eval x = .slice A m c) (hb : Bytes w w.heap.size A m k) (hlen : l.length + m ≤ 140737488355328) (hbase : base ≤ w.heap.size)
    (h : ∀ v' w', OwnB w' base v' (l ++ k) → w.grownBy w' v.ownBlock → NewOb w v.ownBlock v'.ownBlock → K (a.put o.dst v') w') :
    if Region.wanted o (yielded ops a.tmps) = true then Oper.wp Tryz.prog o a w K Q else E := by
  have hw : Region.wanted o (yielded ops a.tmps) = true := by simp [Region.wanted, hgd]
  rw [if_pos hw]
  exact wp_appAt s x ho hs hown hx hb hlen hbase h
theorem step_zerosAt {ops : Array Oper} {E : Prop} (hgd : o.guard = none) (s x : Operand) (ho : o.op = .call { callee := .builtin .append, args := #[s, x], argTypes := #[22, 3] }) (hs : a.eval s = v) (hown : OwnB w base v l)
    (n : Nat) (hx : a.eval x = .int .i64 n) (hlen : l.length + n ≤ 140737488355328) (hbase : base ≤ w.heap.size)
    (h : ∀ v' w', OwnB w' base v' (l ++ List.replicate n 0) → w.grownBy w' v.ownBlock → NewOb w v.ownBlock v'.ownBlock → K (a.put o.dst v') w') :
    if Region.wanted o (yielded ops a.tmps) = true then Oper.wp Tryz.prog o a w K Q else E := by
  have hw : Region.wanted o (yielded ops a.tmps) = true := by simp [Region.wanted, hgd]
  rw [if_pos hw]
  exact wp_zerosAt s x ho hs hown n hx hlen hbase h
end
theorem Whole.at {w : World} {g : Nat} {t : TypeId} {cs : Array Value} (h : Whole w g t cs) (i : Nat) {u : Value} (hu : cs[i]? = some u) : w.cell? ⟨g, i, none⟩ = some u := (h.cell i).trans hu
theorem Whole.ownGrown {w w' : World} {g : Nat} {t : TypeId} {cs : Array Value} {ob : Option Nat} (h : Whole w g t cs) (hG : w.grownBy w' ob) (ho : ob ≠ some g) : Whole w' g t cs := (hG.block g h.lt (fun e => ho e.symm)).trans h
theorem wpList_storeC {ops : Array Oper} {rest : List Oper} {o : Oper} {a : Act} {w : World} {Q : Exit → Act → World → Prop} (hgd : o.guard = none) (ty : TypeId) (x y : Operand) (ho : o.op = .store ty x y)
    {g i : Nat} {t : TypeId} {cs : Array Value} (cs' : Array Value) {u : Value} (hx : a.eval x = .pointer (some ⟨g, i, none⟩)) (hy : a.eval y = u) (hw : Whole w g t cs) (hi : i < cs.size)
    (hs : (Tryz.prog.info? ty).map (·.size) = some 1) (h1 : u.oneCell' = true) (hcells : u.cells = #[u]) (hcs : cs.setIfInBounds i u = cs')
    (h : ∀ w', Whole w' g t cs' → w.grownBy w' (some g) → wpList Tryz.prog ops Q rest (a.put o.dst undef) w') : wpList Tryz.prog ops Q (o :: rest) a w := by
  subst hcs
  refine wpList_plain hgd fun _ hK => ?_
  have hst := run_storeCells_at Tryz.prog g i t [u] 0 cs w hw (by simp; omega) (fun x hx => by simp at hx; subst hx; exact h1)
  unfold Oper.wp execOp
  cases hq : Tryz.prog.info? ty with
  | none => simp [hq] at hs
  | some d =>
    have hs' : d.size = 1 := by simpa [hq] using hs
    have hr : (storeVar ty ⟨g, i, none⟩ u).run Tryz.prog w = .ok () (w.setRow g (cs.toList.take (i + 0) ++ [u] ++ cs.toList.drop (i + 0 + [u].length)).toArray) := by
      simp only [storeVar, sizeOf, typeInfo, hcells]
      simpa [hq, hs'] using hst
    simp only [ho, hx, hy, Instr.storeAt, Instr.sureAddr, Sem.run_bind, Sem.run_pure, Result.andThen_ok, hr]
    refine hK _ _ (h _ ?_ ⟨rfl, rfl, rfl, by simp, fun k _ hk => setRow_other w g k _ (fun e => hk (by simp [e]))⟩)
    have e : (cs.toList.take (i + 0) ++ [u] ++ cs.toList.drop (i + 0 + [u].length)).toArray = cs.setIfInBounds i u := by
      apply Array.ext'
      rw [Array.toList_setIfInBounds, List.set_eq_take_append_cons_drop, if_pos (by simpa using hi)]
      simp
    rw [e]
    exact setRow_heap w g cs _ _ _ hw
theorem wpList_min {ops : Array Oper} {rest : List Oper} {o : Oper} {a : Act} {w : World} {Q : Exit → Act → World → Prop} (hgd : o.guard = none) (x y : Operand) {ts : Array TypeId} (ho : o.op = .call { callee := .builtin .min, args := #[x, y], argTypes := ts })
    {p q r : Int} {k : IntKind} (hx : a.eval x = .int k p) (hy : a.eval y = .int k q) (hr : (if q < p then q else p) = r) (h : wpList Tryz.prog ops Q rest (a.put o.dst (.int k r)) w) : wpList Tryz.prog ops Q (o :: rest) a w := by
  subst hr
  refine wpList_plain hgd fun _ hK => ?_
  unfold Oper.wp execOp
  simp only [ho, resolve, invoke, builtin, Sem.run_bind, Sem.run_pure, Result.andThen_ok, List.map_toArray, List.map_cons, List.map_nil, hx, hy, run_min_int2]
  exact hK _ _ h
def Qt (w w' : World) : Prop := ∃ m, w' = w.drewN m
theorem Qt.refl (w : World) : Qt w w := ⟨0, rfl⟩
theorem Qt.drewN {a b : World} (h : Qt a b) (n : Nat) : Qt a (b.drewN n) := by
  obtain ⟨m, rfl⟩ := h
  exact ⟨m + n, World.drewN_drewN a m n⟩
theorem Qt.ext {a b : World} (h : Qt a b) : Ext a b := by
  obtain ⟨m, rfl⟩ := h
  exact (Ext.refl a).drewN m
theorem run_mid (W : World) (a : Option Addr) (n c : Nat) (k k' : IntKind) (l h : Int) (h0 : 0 ≤ l) (h1 : l ≤ h) (h2 : h ≤ c) :
    (Instr.slice 22 (.slice a n c) (some (.int k l)) (some (.int k' h)) none).run Tryz.prog W = .ok (.slice (cutAt a c l.toNat) (h.toNat - l.toNat) (c - l.toNat)) W := by
  rw [run_slice_lh (P := Tryz.prog) (w := W) 22 a n c (by kernel_rfl) k k' l h h0 h1 h2]
  have hs : (sizeOf (Tryz.prog.elem 22)).run Tryz.prog W = .ok 1 W := by kernel_rfl
  rw [hs]
  simp [Result.andThen, sliced, cutAt]
end Go.Proofs.YthpbckignppaiaaGreatDoor

namespace Go.Proofs.YthpbckignppaiaaGreatDoor
open Go.RowKit
theorem wpList_zerosAt {o : Oper} {a : Act} {Q : Exit → Act → World → Prop} {w : World} {base : Nat} {v : Value} {l : List UInt8} {ops : Array Oper} {rest : List Oper} (hgd : o.guard = none) (s x : Operand) (ho : o.op = .call { callee := .builtin .append, args := #[s, x], argTypes := #[22, 3] }) (hs : a.eval s = v) (hown : OwnB w base v l)
    (n : Nat) (hx : a.eval x = .int .i64 n) (hlen : l.length + n ≤ 140737488355328) (hbase : base ≤ w.heap.size)
    (h : ∀ v' w', OwnB w' base v' (l ++ List.replicate n 0) → w.grownBy w' v.ownBlock → NewOb w v.ownBlock v'.ownBlock → wpList Tryz.prog ops Q rest (a.put o.dst v') w') : wpList Tryz.prog ops Q (o :: rest) a w :=
  wpList_plain hgd fun _ hK => wp_zerosAt s x ho hs hown n hx hlen hbase fun v' w' h2 h3 h4 => hK _ _ (h v' w' h2 h3 h4)
theorem OwnB.cut0 {w : World} {base g n c : Nat} {l : List UInt8} (h : OwnB w base (.slice (some ⟨g, 0, none⟩) n c) l) : OwnB w base (.slice (some ⟨g, 0, none⟩) 0 c) [] := by
  refine ⟨rfl, ?_⟩
  rcases h.2 with ⟨h0, _⟩ | ⟨x, cap, cur, hv, hb, hx, hn, hm, hs, _⟩
  · cases h0
  · simp only [Value.slice.injEq, Option.some.injEq, Addr.mk.injEq, and_true] at hv
    obtain ⟨rfl, _, rfl⟩ := hv
    exact .inr ⟨g, c, cur, rfl, hb, hx, by simp, hm, hs, by simp⟩
set_option maxHeartbeats 1000000 in
set_option maxRecDepth 100000 in
theorem growNil_any (n : Nat) (w : World) (hn : n ≤ 1000000000) : Calls Tryz.prog 58 #[.slice none 0 0, .int .i64 (n : Int)] w (MadeB w []) := by
  have hnil := OwnB.nil w w.heap.size
  have hfit : ([] : List UInt8).length + n ≤ 140737488355328 := by simp; omega
  by_cases h0 : n = 0
  · subst h0
    go_enter Tryz.func58, Tryz.ntmps58
    go_wp2
    go_ret
    exact ⟨_, rfl, hnil, Ext.refl _⟩
  · have h1 : (0 : Int) < (n : Int) := by omega
    have h2 : ¬ ((n : Int) < 0) := by omega
    clear h0
    go_enter Tryz.func58, Tryz.ntmps58
    go_wp2_with (at_builtin; refine wpList_zerosAt rfl (.tmp 20) (.tmp 21) rfl rfl hnil n rfl hfit (Nat.le_refl _) ?_; intro v2 w2 hO2 hG2 hN2; rw [List.nil_append] at hO2; obtain ⟨g, c, hv2, hg, hc⟩ := hO2.formG (by simp; omega); rw [List.length_replicate] at hv2 hc; subst hv2; have i1 : (0 : Int) ≤ (c : Int) := by omega)
    go_ret
    exact ⟨_, rfl, hO2.cut0, (Ext.refl w).grown' hG2⟩
theorem flat_take (ls : List (List UInt8)) (i : Nat) (h : i < ls.length) : (ls.take (i + 1)).flatten = (ls.take i).flatten ++ ls.getD i [] := by
  rw [List.take_succ_eq_append_getElem h, List.flatten_append, List.getD_eq_getElem?_getD, List.getElem?_eq_getElem h]
  simp
theorem flat_take_le (ls : List (List UInt8)) (i : Nat) : (ls.take i).flatten.length ≤ ls.flatten.length := by
  conv => rhs; rw [← List.take_append_drop i ls, List.flatten_append, List.length_append]
  omega
set_option maxHeartbeats 2000000 in
set_option maxRecDepth 100000 in
theorem concat_any (A : Option Addr) (c : Nat) (ls : List (List UInt8)) (w : World) (hb : Parts w w.heap.size A ls.length ls) (hm : ls.length ≤ 1000000000) (htot : ls.flatten.length ≤ 1000000000) :
    Calls Tryz.prog 40 #[.slice A ls.length c] w (MadeB w ls.flatten) := by
  obtain ⟨_, hb⟩ := hb
  rcases hb with h0 | ⟨blk, off, rfl, hB, hcs⟩
  · obtain rfl := List.eq_nil_of_length_eq_zero h0
    have C := growNil_any 0 w (by omega)
    go_enter Tryz.func40, Tryz.ntmps40
    go_wp2
    go_loop [3, 11] (fun s i => s = .int .i64 0 ∧ i = .int .i64 0) (fun _ _ => 0)
    case atStart => exact ⟨rfl, rfl⟩
    case round =>
      obtain ⟨rfl, rfl⟩ := hrel
      go_wp2_with fail
      refine C.mono ?_
      rintro e w2 ⟨v2, rfl, hO2, hE2⟩
      go_wp2
      go_loopw [6, 27] (fun v i wr => i = .int .i64 0 ∧ OwnB wr w.heap.size v [] ∧ Ext w wr) (fun _ _ _ => 0)
      case atStart => exact ⟨rfl, hO2, hE2⟩
      case round =>
        obtain ⟨rfl, hO3, hE3⟩ := hrel
        go_wp2
        go_ret
        exact ⟨_, rfl, hO3, hE3⟩
  · obtain ⟨T, hT⟩ : ∃ T, T = ls.flatten.length := ⟨_, rfl⟩
    have CG := fun W => growNil_any T W (by omega)
    have HC := hide hcs
    have HT := hide htot
    have HTe := hide hT
    clear hT htot
    clear hcs
    go_enter Tryz.func40, Tryz.ntmps40
    go_wp2
    go_loop [3, 11] (fun s i => ∃ j : Nat, j ≤ ls.length ∧ i = .int .i64 (j : Int) ∧ s = .int .i64 (((ls.take j).flatten.length : Nat) : Int)) (fun _ i => ls.length - (intOf i).toNat)
    case atStart => exact ⟨0, by omega, rfl, by simp⟩
    case round =>
      obtain ⟨j, hj, rfl, rfl⟩ := hrel
      by_cases hlt : j < ls.length
      · obtain ⟨A', n', c', hc1, _, hb1⟩ := HC.out j hlt
        have hf := flat_take ls j hlt
        have hle := flat_take_le ls (j + 1)
        have hn' := hb1.1
        rw [hf, List.length_append, hn'] at hle
        have ht := HT.out
        have HF := hide hf
        obtain ⟨s, hs⟩ : ∃ s, s = (ls.take j).flatten.length := ⟨_, rfl⟩
        rw [← hs] at hle ⊢
        have hw : IntKind.i64.wrap ((s : Int) + (n' : Int)) = ((s + n' : Nat) : Int) := by rw [IntKind.wrap_i64]; omega
        have hpos : ¬ (((s + n' : Nat) : Int) < 0) := by omega
        have HS := hide hs
        have HN := hide hn'
        clear hf hb1 hs hn' ht
        go_wp2
        go_round
        case rel => exact ⟨j + 1, by omega, by go_num, by rw [HF.out, List.length_append, HN.out, ← HS.out]; go_num⟩
        case measure => simp [intOf]; omega
      · obtain rfl : j = ls.length := by omega
        rw [List.take_length, ← HTe.out]
        go_wp2_with fail
        refine (CG _).mono ?_
        rintro e w2 ⟨v2, rfl, hO2, hE2⟩
        go_wp2
        go_loopw [6, 27] (fun v i wr => ∃ j : Nat, j ≤ ls.length ∧ i = .int .i64 (j : Int) ∧ OwnB wr w.heap.size v (ls.take j).flatten ∧ Ext w wr) (fun _ i _ => ls.length - (intOf i).toNat)
        case atStart => exact ⟨0, by omega, rfl, by simpa using hO2, hE2⟩
        case round =>
          obtain ⟨j, hj, rfl, hO3, hE3⟩ := hrel
          by_cases hlt : j < ls.length
          · obtain ⟨A', n', c', hc1, _, hb1⟩ := HC.out j hlt
            have hc2 := (hE3.cell (i := off + j) hB).trans hc1
            have hb2 := hE3.bytes hb1
            have hf := flat_take ls j hlt
            have hle := flat_take_le ls (j + 1)
            rw [hf, List.length_append, hb1.1] at hle
            have HF := hide hf
            have hfit : (ls.take j).flatten.length + n' ≤ 140737488355328 := by have := HT.out; omega
            have hB3 := hE3.le
            clear hf hb1 hle hc1
            go_wp2_with (at_builtin; refine wpList_appAt rfl (.tmp 31) (.tmp 32) rfl rfl hO3 rfl hb2 hfit hB3 ?_; intro v4 w4 hO4 hG4 _)
            go_roundw
            case rel => exact ⟨j + 1, by omega, by go_num, by rw [HF.out]; exact hO4, hO3.below hE3 hG4 hB3⟩
            case measure => simp [intOf]; omega
          · obtain rfl : j = ls.length := by omega
            rw [List.take_length] at hO3
            go_wp2
            go_ret
            exact ⟨_, rfl, hO3, hE3⟩
theorem all_any (A : Option Addr) (c : Nat) (ls : List (List UInt8)) (w : World) (hb : Parts w w.heap.size A ls.length ls) (hm : ls.length ≤ 1000000000) (htot : ls.flatten.length ≤ 1000000000) :
    Calls Tryz.prog 18 #[.slice A ls.length c] w (MadeB w ls.flatten) := by
  have C := concat_any A c ls w hb hm htot
  clear hb
  go_enter Tryz.func18, Tryz.ntmps18
  go_wp2_with fail
  refine C.mono ?_
  rintro e w2 ⟨v2, rfl, hO2, hE2⟩
  go_wp2
  go_ret
  exact ⟨_, rfl, hO2, hE2⟩
end Go.Proofs.YthpbckignppaiaaGreatDoor

namespace Go.Proofs.YthpbckignppaiaaGreatDoor
open Go.RowKit
theorem byte_of {z : Int} {y : Nat} (h : z = (y : Int)) (hy : y < 256) : z = ((UInt8.ofNat y).toNat : Int) := by rw [h, Num.ofNat_low y hy]
set_option maxHeartbeats 1000000 in
set_option maxRecDepth 100000 in
theorem refNum_any (x : Nat) (w : World) (hx : x < 18446744073709551616) : Calls Tryz.prog 13 #[.int .u64 x] w (MadeB w (Num.enc x)) := by
  go_enter Tryz.func13, Tryz.ntmps13
  go_wp2
  go_loopw [0, 3] (fun y v wr => ∃ (k z : Nat) (pre : List UInt8), y = .int .u64 (z : Int) ∧ z < 18446744073709551616 ∧ z < 128 ^ (10 - k) ∧ k ≤ 9 ∧ pre.length = k ∧ pre ++ Num.encF (10 - k) z = Num.enc x ∧ OwnB wr w.heap.size v pre ∧ Ext w wr) (fun y _ _ => (intOf y).toNat)
  case atStart => exact ⟨0, x, [], rfl, hx, Nat.lt_of_lt_of_le hx (by decide), by omega, rfl, rfl, OwnB.nil _ _, Ext.refl _⟩
  case round =>
    obtain ⟨k, z, pre, rfl, hz, hzk, hk, hlen, henc, hO, hE⟩ := hrel
    obtain ⟨f, hf⟩ : ∃ f, 10 - k = f + 1 := ⟨9 - k, by omega⟩
    rw [hf] at henc hzk
    have hfit : pre.length + 1 ≤ 140737488355328 := by omega
    by_cases hs : z < 128
    · rw [Num.encF_small hs] at henc
      have HE := hide henc
      have hbyte : ((z : Int) % 256) = ((UInt8.ofNat z).toNat : Int) := byte_of (by omega) (by omega)
      obtain ⟨bt, rfl⟩ : ∃ bt : UInt8, z = bt.toNat := ⟨UInt8.ofNat z, by rw [Num.ofNat_low z (by omega)]⟩
      rw [UInt8.ofNat_toNat] at HE
      have hb1 := bytesNew wr [bt] #[.int .u8 (bt.toNat : Int)] 5 (0, 0) rfl 1 rfl
      have hO1 := hO.ext (extNew wr (.cells #[.int .u8 (bt.toNat : Int)] 5))
      have hE1 := hE.trans (extNew wr (.cells #[.int .u8 (bt.toNat : Int)] 5))
      have hB1 := hE1.le
      clear henc hlen hbyte hf
      go_wp2_with (at_builtin; refine wpList_appAt rfl (.tmp 15) (.tmp 18) rfl rfl hO1 rfl hb1 hfit hB1 ?_; intro v2 w2 hO2 hG2 hN2)
      go_ret
      exact ⟨v2, rfl, by rw [← HE.out]; exact hO2, hO1.below hE1 hG2 hB1⟩
    · rw [Num.encF_big hs] at henc
      have HE := hide henc
      have hk9 : k ≤ 8 := by
        rcases Nat.lt_or_ge k 9 with h | h
        · omega
        · obtain rfl : k = 9 := by omega
          obtain rfl : f = 0 := by omega
          simp at hzk
          omega
      have HF := hide (show 10 - (k + 1) = f by omega)
      have HZ := hide (show z / 128 < 128 ^ f by rw [Nat.pow_succ] at hzk; exact Nat.div_lt_of_lt_mul (by rw [Nat.mul_comm]; exact hzk))
      obtain ⟨bt, hbt⟩ : ∃ bt : UInt8, bt = UInt8.ofNat (128 + z % 128) := ⟨_, rfl⟩
      have hbn : bt.toNat = 128 + z % 128 := by rw [hbt]; exact Num.ofNat_low _ (by omega)
      rw [← hbt] at HE
      have hbyte : (128 + (z : Int) % 128) = (bt.toNat : Int) := by omega
      have hbl := bt.toNat_lt
      have hb1 := bytesNew wr [bt] #[.int .u8 (bt.toNat : Int)] 5 (0, 0) rfl 1 rfl
      have hO1 := hO.ext (extNew wr (.cells #[.int .u8 (bt.toNat : Int)] 5))
      have hE1 := hE.trans (extNew wr (.cells #[.int .u8 (bt.toNat : Int)] 5))
      have hB1 := hE1.le
      have HLen := hide hlen
      clear henc hlen hf hbt hbn hzk
      go_wp2_with (at_builtin; refine wpList_appAt rfl (.tmp 6) (.tmp 11) rfl rfl hO1 rfl hb1 hfit hB1 ?_; intro v2 w2 hO2 hG2 hN2)
      go_roundw
      case rel =>
        refine ⟨k + 1, z / 128, pre ++ [bt], ?_, by omega, by rw [HF.out]; exact HZ.out, by omega, by simp [HLen.out], by rw [HF.out, List.append_assoc]; exact HE.out, hO2, hO1.below hE1 hG2 hB1⟩
        rw [show ((z : Int) / 128) = ((z / 128 : Nat) : Int) by omega]
      case measure => simp [intOf]; omega
end Go.Proofs.YthpbckignppaiaaGreatDoor

namespace Go.Proofs.YthpbckignppaiaaGreatDoor
open Go.RowKit
def MadeE (w : World) (l : List UInt8) (err : Int) (e : Ending) (w' : World) : Prop := ∃ v, e = .returned (.tuple #[v, .int .i64 err]) ∧ OwnB w' w.heap.size v l ∧ Ext w w'
end Go.Proofs.YthpbckignppaiaaGreatDoor

namespace Go.Proofs.YthpbckignppaiaaGreatDoor
open Go.RowKit
theorem Num.or128 (z : Nat) : bits .or .u8 ((z : Int) % 256) 128 = ((128 + z % 128 : Nat) : Int) := by
  have e : (z : Int) % 256 = ((z % 256 : Nat) : Int) := by omega
  rw [e, show (128 : Int) = ((128 : Nat) : Int) from rfl, u8_or_nat _ _ (Nat.mod_lt _ (by decide)) (by decide)]
  have H : ∀ y, y < 256 → y ||| 128 = 128 + y % 128 := by decide +kernel
  rw [H _ (Nat.mod_lt z (by decide)), show z % 256 % 128 = z % 128 by omega]
set_option maxHeartbeats 1000000 in
set_option maxRecDepth 100000 in
theorem ownNum_any (x : Nat) (w : World) (hx : x < 18446744073709551616) : Calls Tryz.prog 19 #[.int .u64 x] w (MadeB w (Num.enc x)) := by
  go_enter Tryz.func19, Tryz.ntmps19
  go_wp2
  go_loopw [0, 3] (fun y v wr => ∃ (k z : Nat) (pre : List UInt8), y = .int .u64 (z : Int) ∧ z < 18446744073709551616 ∧ z < 128 ^ (10 - k) ∧ k ≤ 9 ∧ pre.length = k ∧ pre ++ Num.encF (10 - k) z = Num.enc x ∧ OwnB wr w.heap.size v pre ∧ Ext w wr) (fun y _ _ => (intOf y).toNat)
  case atStart => exact ⟨0, x, [], rfl, hx, Nat.lt_of_lt_of_le hx (by decide), by omega, rfl, rfl, OwnB.nil _ _, Ext.refl _⟩
  case round =>
    obtain ⟨k, z, pre, rfl, hz, hzk, hk, hlen, henc, hO, hE⟩ := hrel
    obtain ⟨f, hf⟩ : ∃ f, 10 - k = f + 1 := ⟨9 - k, by omega⟩
    rw [hf] at henc hzk
    have hfit : pre.length + 1 ≤ 140737488355328 := by omega
    by_cases hs : z < 128
    · rw [Num.encF_small hs] at henc
      have HE := hide henc
      obtain ⟨bt, rfl⟩ : ∃ bt : UInt8, z = bt.toNat := ⟨UInt8.ofNat z, by rw [Num.ofNat_low z (by omega)]⟩
      rw [UInt8.ofNat_toNat] at HE
      have hs' : ¬ (128 ≤ (bt.toNat : Int)) := by omega
      have hb1 := bytesNew wr [bt] #[.int .u8 (bt.toNat : Int)] 5 (0, 0) rfl 1 rfl
      have hO1 := hO.ext (extNew wr (.cells #[.int .u8 (bt.toNat : Int)] 5))
      have hE1 := hE.trans (extNew wr (.cells #[.int .u8 (bt.toNat : Int)] 5))
      have hB1 := hE1.le
      clear henc hlen hf
      go_wp2_with (at_builtin; refine wpList_appAt rfl (.tmp 14) (.tmp 17) rfl rfl hO1 rfl hb1 hfit hB1 ?_; intro v2 w2 hO2 hG2 hN2)
      go_ret
      exact ⟨v2, rfl, by rw [← HE.out]; exact hO2, hO1.below hE1 hG2 hB1⟩
    · rw [Num.encF_big hs] at henc
      have HE := hide henc
      have hk9 : k ≤ 8 := by
        rcases Nat.lt_or_ge k 9 with h | h
        · omega
        · obtain rfl : k = 9 := by omega
          obtain rfl : f = 0 := by omega
          simp at hzk
          omega
      have HF := hide (show 10 - (k + 1) = f by omega)
      have HZ := hide (show z / 128 < 128 ^ f by rw [Nat.pow_succ] at hzk; exact Nat.div_lt_of_lt_mul (by rw [Nat.mul_comm]; exact hzk))
      obtain ⟨bt, hbt⟩ : ∃ bt : UInt8, bt = UInt8.ofNat (128 + z % 128) := ⟨_, rfl⟩
      have hbn : bt.toNat = 128 + z % 128 := by rw [hbt]; exact Num.ofNat_low _ (by omega)
      rw [← hbt] at HE
      have hor := Num.or128 z
      rw [← hbn] at hor
      have hs' : 128 ≤ (z : Int) := by omega
      have hb1 := bytesNew wr [bt] #[.int .u8 (bt.toNat : Int)] 5 (0, 0) rfl 1 rfl
      have hO1 := hO.ext (extNew wr (.cells #[.int .u8 (bt.toNat : Int)] 5))
      have hE1 := hE.trans (extNew wr (.cells #[.int .u8 (bt.toNat : Int)] 5))
      have hB1 := hE1.le
      have HLen := hide hlen
      clear henc hlen hf hbt hbn hzk
      go_wp2_with (at_builtin; refine wpList_appAt rfl (.tmp 8) (.tmp 12) rfl rfl hO1 rfl hb1 hfit hB1 ?_; intro v2 w2 hO2 hG2 hN2)
      go_roundw
      case rel =>
        refine ⟨k + 1, z / 128, pre ++ [bt], ?_, by omega, by rw [HF.out]; exact HZ.out, by omega, by simp [HLen.out], by rw [HF.out, List.append_assoc]; exact HE.out, hO2, hO1.below hE1 hG2 hB1⟩
        rw [show ((z : Int) / 128) = ((z / 128 : Nat) : Int) by omega]
      case measure => simp [intOf]; omega
end Go.Proofs.YthpbckignppaiaaGreatDoor

namespace Go.Proofs.YthpbckignppaiaaGreatDoor
open Go.RowKit
def ShutUp (md : Region.Mode) (ops : Array Oper) (listed : Array Bool) : Prop := ∀ j oj, ops[j]? = some oj → listed.getD j false = true → ∀ e ∈ oj.after, Region.binds md e = true → listed.getD e.on false = true
def shutUpB (md : Region.Mode) (ops : Array Oper) (listed : Array Bool) : Bool :=
  (List.range ops.size).all fun j => !listed.getD j false || match ops[j]? with
    | some oj => oj.after.all fun e => !Region.binds md e || listed.getD e.on false
    | none => true
theorem shutUp_of {md : Region.Mode} {ops : Array Oper} {listed : Array Bool} (h : shutUpB md ops listed = true) : ShutUp md ops listed := by
  intro j oj hj hl e he hb
  have hlt := (Array.getElem?_eq_some_iff.1 hj).1
  unfold shutUpB at h
  rw [List.all_eq_true] at h
  have h1 := h j (List.mem_range.2 hlt)
  rw [hl, hj] at h1
  simp only [Bool.not_true, Bool.false_or, Array.all_eq_true_iff_forall_mem] at h1
  have h2 := h1 e he
  rw [hb] at h2
  simpa using h2
theorem ShutUp.set {md : Region.Mode} {ops : Array Oper} {listed : Array Bool} (h : ShutUp md ops listed) {j : Nat} (hj : j ∈ Region.ready md ops listed) : ShutUp md ops (listed.setIfInBounds j true) := by
  intro k ok hk hl e he hb
  by_cases hkj : j = k
  · subst hkj
    obtain ⟨_, o, ho, hall⟩ := mem_ready.1 hj
    obtain rfl : ok = o := Option.some.inj (hk.symm.trans ho)
    exact getD_set_true (hall e he hb)
  · rw [getD_set_ne false hkj] at hl
    exact getD_set_true (h k ok hk hl e he hb)
def aheadB (md : Region.Mode) (ops : Array Oper) (n : Nat) : Nat → Nat → Bool
  | 0, i => Region.waitsFor md ops n i
  | f + 1, i => Region.waitsFor md ops n i || (List.range ops.size).any fun k => Region.waitsFor md ops k i && aheadB md ops n f k
theorem ShutUp.waits {md : Region.Mode} {ops : Array Oper} {listed : Array Bool} (h : ShutUp md ops listed) {j i : Nat} (hw : Region.waitsFor md ops j i = true) (hj : listed.getD j false = true) : listed.getD i false = true := by
  obtain ⟨oj, hoj, e, he, hb, rfl⟩ := Region.waitsFor_spec hw
  exact h j oj hoj hj e he hb
theorem ShutUp.ahead {md : Region.Mode} {ops : Array Oper} {listed : Array Bool} (h : ShutUp md ops listed) {n : Nat} (hn : listed.getD n false = true) : ∀ (f i : Nat), aheadB md ops n f i = true → listed.getD i false = true
  | 0, i, ha => h.waits ha hn
  | f + 1, i, ha => by
    unfold aheadB at ha
    rw [Bool.or_eq_true, List.any_eq_true] at ha
    rcases ha with ha | ⟨k, _, ha⟩
    · exact h.waits ha hn
    · rw [Bool.and_eq_true] at ha
      exact h.waits ha.1 (h.ahead hn f k ha.2)
section
variable {P : Program} {ops : Array Oper} {Q : Exit → Act → World → Prop} {md : Region.Mode} {S : World → Prop} {n : Nat}
def wpAnyT (P : Program) (md : Region.Mode) (ops : Array Oper) (Q : Exit → Act → World → Prop) (S : World → Prop) (n : Nat) : Nat → Array Bool → Act → World → Prop
  | 0, listed, a, w => Region.ready md ops listed = [] ∧ Q .normal a w
  | fuel + 1, listed, a, w =>
    (Region.ready md ops listed = [] → Q .normal a w) ∧
    ∀ i ∈ Region.ready md ops listed, wpOp P ops Q i (fun a' w' => ((listed.setIfInBounds i true).getD n false = false → S w') ∧ wpAnyT P md ops Q S n fuel (listed.setIfInBounds i true) a' w') a w
theorem wpAny_of_T : ∀ (fuel : Nat) (listed : Array Bool) (a : Act) (w : World), wpAnyT P md ops Q S n fuel listed a w → wpAny P md ops Q fuel listed a w
  | 0, _, _, _, h => h
  | fuel + 1, _, _, _, h => ⟨h.1, fun i hi => wpOp_mono (fun a' w' h' => wpAny_of_T fuel _ a' w' h'.2) (h.2 i hi)⟩
theorem wpAnyT_first {i : Nat} {oi : Oper} {v : Value} (hi : ops[i]? = some oi) (hsel : ∀ (j : Nat) (o : Oper) cs b, ops[j]? = some o → o.op ≠ .select cs b)
    (hQ : ∀ c a w, Q (.panic c) (a.put oi.dst v) w → Q (.panic c) a w) (hni : i ≠ n) {f : Nat} (hah : aheadB md ops n f i = true) :
    ∀ (fuel : Nat) (listed : Array Bool) (a : Act) (w : World),
      (∀ j oj, ops[j]? = some oj → j ≠ i → listed.getD j true = false → (∀ e ∈ oj.after, Region.binds md e = true → e.on ≠ i) → oi.apart ops oj = true) →
      i ∈ Region.ready md ops listed → ShutUp md ops listed → YieldsIf P ops S oi v a → S w →
      wpAnyT P md ops Q S n fuel (listed.setIfInBounds i true) (a.put oi.dst v) w → wpAnyT P md ops Q S n (fuel + 1) listed a w := by
  intro fuel
  induction fuel with
  | zero =>
    intro listed a w _ hr _ hy hS H
    refine ⟨fun h => (by rw [h] at hr; cases hr), fun j hj => ?_⟩
    by_cases hji : j = i
    · subst hji; exact hy.wpOp hi hS ⟨fun _ => hS, H⟩
    · have := ready_mono hj hji
      rw [H.1] at this
      cases this
  | succ fuel ih =>
    intro listed a w hfree hr hsh hy hS H
    refine ⟨fun h => (by rw [h] at hr; cases hr), fun j hj => ?_⟩
    by_cases hji : j = i
    · subst hji; exact hy.wpOp hi hS ⟨fun _ => hS, H⟩
    · have h1 := H.2 j (ready_mono hj hji)
      obtain ⟨hjun, oj, hoj, hall⟩ := mem_ready.1 hj
      have hiun := (mem_ready.1 hr).1
      have hiun' : listed.getD i false = false := getD_both hiun
      have hnot : ∀ e ∈ oj.after, Region.binds md e = true → e.on ≠ i := fun e he hb heq => by
        have h1 := hall e he hb
        rw [heq, hiun'] at h1
        cases h1
      have h2 := wpOp_putIf hoj (hfree j oj hoj hji hjun hnot) (fun cs b => hsel i oi cs b hi) (fun cs b => hsel j oj cs b hoj) hQ hy h1
      have hfree' : ∀ k ok, ops[k]? = some ok → k ≠ i → (listed.setIfInBounds j true).getD k true = false →
          (∀ e ∈ ok.after, Region.binds md e = true → e.on ≠ i) → oi.apart ops ok = true := fun k ok hk hki hun hno => by
        refine hfree k ok hk hki ?_ hno
        by_cases hjk : j = k
        · subst hjk; exact hjun
        · rw [getD_set_ne true hjk] at hun; exact hun
      have hsh' := hsh.set hj
      have hnun : (listed.setIfInBounds j true).getD n false = false := by
        cases hl : (listed.setIfInBounds j true).getD n false with
        | false => rfl
        | true =>
          have := hsh'.ahead hl f i hah
          rw [getD_set_ne false hji, hiun'] at this
          cases this
      refine wpOp_mono (fun a' w' h3 => ?_) h2
      have hS' : S w' := h3.2.1 (by rw [Array.setIfInBounds_comm _ _ (Ne.symm hji), getD_set_ne false hni]; exact hnun)
      refine ⟨fun _ => hS', ih (listed.setIfInBounds j true) a' w' hfree' (ready_mono hr (Ne.symm hji)) hsh' h3.1 hS' ?_⟩
      rw [Array.setIfInBounds_comm _ _ hji]
      exact h3.2.2
theorem wpAnyT_take (i : Nat) (d : Option Tmp) (v : Value) (listed' : Array Bool) {oi : Oper} {fuel : Nat} {listed : Array Bool} {a : Act} {w : World} (hi : ops[i]? = some oi) (hd : oi.dst = d) (hl : listed.setIfInBounds i true = listed')
    (hb : (Region.noSelect ops && Region.free md ops listed i && (Region.ready md ops listed).contains i && shutUpB md ops listed && aheadB md ops n ops.size i && !(i == n)) = true)
    (hQ : ∀ c a w, Q (.panic c) (a.put oi.dst v) w → Q (.panic c) a w) (hS : S w) (hw : Region.wanted oi (yielded ops a.tmps) = true) (hy : ∀ W, S W → (execOp a.eval oi).run P W = .ok (.value v) W)
    (h : wpAnyT P md ops Q S n fuel listed' (a.put d v) w) : wpAnyT P md ops Q S n (fuel + 1) listed a w := by
  subst hd
  subst hl
  simp only [Bool.and_eq_true, Bool.not_eq_true', beq_eq_false_iff_ne, ne_eq] at hb
  obtain ⟨⟨⟨⟨⟨hs, hf⟩, hr⟩, hc⟩, ha⟩, hn⟩ := hb
  exact wpAnyT_first hi (Region.noSelect_spec hs) hQ hn ha fuel listed a w (Region.free_spec hi hf) (by simpa using hr) (shutUp_of hc) (.inl ⟨hw, hy⟩) hS h
theorem wpAnyT_only (i : Nat) (listed' : Array Bool) {o : Oper} {fuel : Nat} {listed : Array Bool} {a : Act} {w : World} (hr : Region.ready md ops listed = [i]) (ho : ops[i]? = some o) (hl : listed.setIfInBounds i true = listed') (hw : Region.wanted o (yielded ops a.tmps) = true)
    (h : ∀ K' : Act → World → Prop, (∀ a w, (listed'.getD n false = false → S w) → wpAnyT P md ops Q S n fuel listed' a w → K' a w) → Oper.wp P o a w K' Q) :
    wpAnyT P md ops Q S n (fuel + 1) listed a w := by
  subst hl
  refine ⟨fun h0 => by rw [h0] at hr; simp at hr, fun j hj => ?_⟩
  rw [hr] at hj
  obtain rfl : j = i := by simpa using hj
  exact wpOp_step ho (fun K' hK => by rw [if_pos hw]; exact h K' (fun a w hS hW => hK a w ⟨hS, hW⟩))
theorem wpAnyT_done {listed : Array Bool} {a : Act} {w : World} (hr : Region.ready md ops listed = []) (h : Q .normal a w) : ∀ fuel, wpAnyT P md ops Q S n fuel listed a w
  | 0 => ⟨hr, h⟩
  | _ + 1 => ⟨fun _ => h, by rw [hr]; simp⟩
theorem wp_region_T {id : Nat} {a : Act} {w : World} (S : World → Prop) (n m : Nat) (listed : Array Bool) (hm : P.follows .mixedOrders = true) (hm' : ops.size = m) (hl : Array.replicate m false = listed) (hS : S w.drew)
    (h : S w.drew → wpAnyT P .any ops Q S n m listed a w.drew) : (Code.region id ops true).wp P Q a w :=
  wp_region_any hm (by rw [hm', hl]; exact wpAny_of_T _ _ _ _ (h hS))
end
end Go.Proofs.YthpbckignppaiaaGreatDoor
namespace Go.Proofs.YthpbckignppaiaaGreatDoor
open Go.RowKit
section
variable {P : Program} {ops : Array Oper} {Q : Exit → Act → World → Prop} {md : Region.Mode} {S : World → Prop} {n : Nat}
theorem wpAnyT_two (i j : Nat) (li lj : Array Bool) {oi oj : Oper} {fuel : Nat} {listed : Array Bool} {a : Act} {w : World} (hr : Region.ready md ops listed = [i, j]) (hoi : ops[i]? = some oi) (hoj : ops[j]? = some oj) (hli : listed.setIfInBounds i true = li) (hlj : listed.setIfInBounds j true = lj)
    (hwi : Region.wanted oi (yielded ops a.tmps) = true) (hwj : Region.wanted oj (yielded ops a.tmps) = true)
    (hi : ∀ K' : Act → World → Prop, (∀ a w, (li.getD n false = false → S w) → wpAnyT P md ops Q S n fuel li a w → K' a w) → Oper.wp P oi a w K' Q)
    (hj : ∀ K' : Act → World → Prop, (∀ a w, (lj.getD n false = false → S w) → wpAnyT P md ops Q S n fuel lj a w → K' a w) → Oper.wp P oj a w K' Q) :
    wpAnyT P md ops Q S n (fuel + 1) listed a w := by
  subst hli
  subst hlj
  refine ⟨fun h0 => by rw [h0] at hr; simp at hr, fun k hk => ?_⟩
  rw [hr] at hk
  simp only [List.mem_cons, List.not_mem_nil, or_false] at hk
  rcases hk with rfl | rfl
  · exact wpOp_step hoi (fun K' hK => by rw [if_pos hwi]; exact hi K' (fun a w hS hW => hK a w ⟨hS, hW⟩))
  · exact wpOp_step hoj (fun K' hK => by rw [if_pos hwj]; exact hj K' (fun a w hS hW => hK a w ⟨hS, hW⟩))
end
end Go.Proofs.YthpbckignppaiaaGreatDoor

