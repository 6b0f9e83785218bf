/- Small facts that all proofs of a seat use: later worlds, slices of bytes, what a cut of a slice is. -/
import Derived.Test.YtlhncfjeleibmaaRows
import Derived.WalkKit
import Derived.WalkSpells
import Derived.WalkLawsBesides
namespace Go.Proofs.Ytlhncfjeleibmaa
open Go.RowKit

theorem hide {p : Prop} (h : p) : Hid p := h
theorem ret_bool {a b : Bool} (h : a = b) : Ending.returned (.bool a) = .returned (.bool b) := by rw [h]
theorem ret_u32 {a b : Int} (h : a = b) : Ending.returned (.int .u32 a) = .returned (.int .u32 b) := by rw [h]

/-- Everything that was there at w is there at W as it was. -/
def Ext (w W : World) : Prop := Below w.heap.size w W
theorem Ext.refl (w : World) : Ext w w := Below.refl _ _
theorem Ext.trans {a b c : World} (h : Ext a b) (k : Ext b c) : Ext a c := Below.trans h (Below.mono k h.size)
theorem Ext.drew {a b : World} (h : Ext a b) : Ext a b.drew := Below.drew h
theorem Ext.drewN {a b : World} (h : Ext a b) (n : Nat) : Ext a (b.drewN n) := ⟨h.os, h.tape, h.output, h.size, h.block⟩
theorem Ext.alloc {a b : World} (h : Ext a b) (o : Obj) : Ext a (b.alloc o) := Below.alloc h h.size o
theorem Ext.grown' {a b c : World} (h : Ext a b) (hg : b.grownBy c none) : Ext a c := Below.grown h hg h.size (fun k hk => by cases hk)
theorem Ext.setCell {a b : World} (h : Ext a b) {g i : Nat} (hg : a.heap.size ≤ g) (u : Value) : Ext a (b.setCell ⟨g, i, none⟩ u) := Below.setCell (p := ⟨g, i, none⟩) h hg u
theorem Ext.storeNew {a b c : World} (h : Ext a b) {o : Obj} (hG : (b.alloc o).grownBy c (some b.heap.size)) : Ext a c := Below.grown (h.alloc o) hG (h.alloc o).size (fun k hk => by cases hk; exact h.size)
theorem Ext.cell {a b : World} (h : Ext a b) {g i : Nat} (hp : g < a.heap.size) : b.cell? ⟨g, i, none⟩ = a.cell? ⟨g, i, none⟩ := Below.cell (p := ⟨g, i, none⟩) h hp
theorem Ext.le {a b : World} (h : Ext a b) : a.heap.size ≤ b.heap.size := h.size
theorem cellNew (w : World) (cs : Array Value) (t : TypeId) (fr : Nat × Nat) (i : Nat) : (w.alloc (.cells cs t fr)).cell? ⟨w.heap.size, i, none⟩ = cs[i]? := World.cell?_alloc_mark w cs t fr i
theorem belowNew (w : World) (o : Obj) : Below w.heap.size w (w.alloc o) := (Below.refl _ _).alloc (Nat.le_refl _) o
theorem extNew (w : World) (o : Obj) : Ext w (w.alloc o) := belowNew w o

/-- A slice that reads as these bytes, its memory below block B. -/
def Bytes (w : World) (B : Nat) (A : Option Addr) (n : Nat) (l : List UInt8) : Prop :=
  l.length = n ∧ (n = 0 ∨ ∃ b off, A = some ⟨b, off, none⟩ ∧ b < B ∧ ∀ i, i < n → w.cell? ⟨b, off + i, none⟩ = some (.int .u8 ((l.getD i 0).toNat : Int)))
theorem Bytes.below {w w' : World} {B C : Nat} {A : Option Addr} {n : Nat} {l : List UInt8} (h : Bytes w B A n l) (hb : Below C w w') (hC : B ≤ C) : Bytes w' B A n l := by
  refine ⟨h.1, ?_⟩
  rcases h.2 with h0 | ⟨b, off, hA, hB, hc⟩
  · exact .inl h0
  · exact .inr ⟨b, off, hA, hB, fun i hi => by rw [hb.cell (p := ⟨b, off + i, none⟩) (Nat.lt_of_lt_of_le hB hC)]; exact hc i hi⟩
theorem Bytes.mono {w : World} {B C : Nat} {A : Option Addr} {n : Nat} {l : List UInt8} (h : Bytes w B A n l) (hC : B ≤ C) : Bytes w C A n l := by
  refine ⟨h.1, ?_⟩
  rcases h.2 with h0 | ⟨b, off, hA, hB, hc⟩
  · exact .inl h0
  · exact .inr ⟨b, off, hA, Nat.lt_of_lt_of_le hB hC, hc⟩
theorem Ext.bytes {a b : World} (h : Ext a b) {A : Option Addr} {n : Nat} {l : List UInt8} (hb : Bytes a a.heap.size A n l) : Bytes b b.heap.size A n l := (hb.below h (Nat.le_refl _)).mono h.size
theorem Bytes.take {w : World} {B : Nat} {A : Option Addr} {n : Nat} {l : List UInt8} (h : Bytes w B A n l) {k : Nat} (hk : k ≤ n) : Bytes w B A k (l.take k) := by
  refine ⟨by rw [List.length_take, h.1]; omega, ?_⟩
  rcases h.2 with h0 | ⟨b, off, hA, hB, hc⟩
  · exact .inl (by omega)
  · refine .inr ⟨b, off, hA, hB, fun i hi => ?_⟩
    rw [hc i (by omega)]
    simp [List.getD_eq_getElem?_getD, hi]
theorem Bytes.none (w : World) (B : Nat) (A : Option Addr) : Bytes w B A 0 [] := ⟨rfl, .inl rfl⟩

/-- Where a slice begins that is cut at k: at the end of its room it stays where it was. -/
def cutAt (A : Option Addr) (c k : Nat) : Option Addr := if c = k then A else A.map (·.add k)
theorem Bytes.drop {w : World} {B : Nat} {A : Option Addr} {n : Nat} {l : List UInt8} (h : Bytes w B A n l) {k c : Nat} (hk : k ≤ n) (hc : n ≤ c) : Bytes w B (cutAt A c k) (n - k) (l.drop k) := by
  refine ⟨by rw [List.length_drop, h.1], ?_⟩
  by_cases hkn : k = n
  · exact .inl (by omega)
  rcases h.2 with h0 | ⟨b, off, rfl, hB, hcell⟩
  · exact .inl (by omega)
  · refine .inr ⟨b, off + k, ?_, hB, fun i hi => ?_⟩
    · simp [cutAt, show ¬ c = k by omega, Addr.add]
    · rw [Nat.add_assoc, hcell (k + i) (by omega)]
      simp [List.getD_eq_getElem?_getD]
/-- New bytes. -/
def byteCells (l : List UInt8) : Array Value := (l.map fun c => Value.int .u8 (c.toNat : Int)).toArray
theorem bytesNew (w : World) (l : List UInt8) (cs : Array Value) (t : TypeId) (fr : Nat × Nat) (h : cs = byteCells l) (n : Nat) (hn : l.length = n) :
    Bytes (w.alloc (.cells cs t fr)) (w.alloc (.cells cs t fr)).heap.size (some ⟨w.heap.size, 0, none⟩) n l := by
  subst h
  subst hn
  refine ⟨rfl, .inr ⟨w.heap.size, 0, rfl, by simp, fun i hi => ?_⟩⟩
  rw [Nat.zero_add, World.cell?_alloc_mark]
  simp [hi, byteCells]

theorem run_cut (W : World) (a : Option Addr) (n c : Nat) (k : IntKind) (l : Int) (h0 : 0 ≤ l) (h1 : l ≤ n) :
    (Instr.slice 33 (.slice a n c) (some (.int k l)) none none).run Try.prog W = .ok (.slice (cutAt a c l.toNat) (n - l.toNat) (c - l.toNat)) W := by
  rw [run_slice_l (P := Try.prog) (w := W) 33 a n c (by kernel_rfl) k l h0 h1]
  have hs : (sizeOf (Try.prog.elem 33)).run Try.prog W = .ok 1 W := by kernel_rfl
  rw [hs]
  simp [Result.andThen, sliced, cutAt]
end Go.Proofs.Ytlhncfjeleibmaa
