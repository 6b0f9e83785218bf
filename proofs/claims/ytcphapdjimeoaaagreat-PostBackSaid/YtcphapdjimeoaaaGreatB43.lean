/- What the laws of chapter 16 ask of the program; the example; DictWrites, DictNone. -/
import Derived.Test.YtcphapdjimeoaaaGreatB01
import Derived.Test.YtcphapdjimeoaaaGreatB06
import Derived.Test.YtcphapdjimeoaaaGreatB14
import Derived.Lib.SlBytesConst
namespace Go.Proofs.YtcphapdjimeoaaaGreat
open Go.RowKit Wrd Dic Num

/-- Block g is a dictionary of these texts. -/
abbrev DctP := World → Nat → List (List UInt8) → Prop
def DctKeep (LP : DctP) : Prop := ∀ {W W' : World} {g : Nat} {l : List (List UInt8)}, LP W g l → Ext W W' → LP W' g l
/-- What Read tells. -/
def RdToD (LP : DctP) (W : World) (r : List (List UInt8) × Nat × Int) (e : Ending) (w' : World) : Prop :=
  Ext W w' ∧ (r.2.2 = 0 → ∃ g, e = .returned (.tuple #[.pointer (some ⟨g, 0, none⟩), .int .i64 (r.2.1 : Int), .int .i64 0]) ∧ LP w' g r.1) ∧ (r.2.2 ≠ 0 → e = .returned (.tuple #[.pointer none, .int .i64 0, .int .i64 r.2.2]))
/-- What At tells. -/
def Dic.inE (l : List (List UInt8)) (i : Int) : Bool := decide (0 ≤ i ∧ i < (l.length : Int))
def Dic.atE (l : List (List UInt8)) (i : Int) : List UInt8 := if inE l i = true then l.getD i.toNat [] else []
/-- From world w on, the program's functions tell what the document's tell. -/
def DWriteC (w : World) : Prop := ∀ (size : Int) (l : List (List UInt8)) (A : Option Addr) (n c : Nat) (W : World), Ext w W → IsI64 size → n ≤ c → c ≤ maxLen → n ≤ 10000 → (∀ s, s ∈ l → s.length ≤ 1000) → TextsAt W W.heap.size A n l → Calls Tryz.prog 23 #[.int .i64 size, .slice A n c] W (MadeE W (writeE size l).1 (writeE size l).2)
def DReadC (LP : DctP) (w : World) : Prop := ∀ (size : Int) (b : List UInt8) (A : Option Addr) (c : Nat) (W : World), Ext w W → IsI64 size → b.length ≤ c → c ≤ maxLen → b.length ≤ 40000 → Bytes W W.heap.size A b.length b → Calls Tryz.prog 15 #[.int .i64 size, .slice A b.length c] W (RdToD LP W (readE b size))
def DLenC (LP : DctP) (w : World) : Prop := ∀ (l : List (List UInt8)) (g : Nat) (W : World), Ext w W → LP W g l → Calls Tryz.prog 17 #[.pointer (some ⟨g, 0, none⟩)] W fun e w' => e = .returned (.int .i64 (l.length : Int)) ∧ Ext W w'
def DAtC (LP : DctP) (w : World) : Prop := ∀ (l : List (List UInt8)) (i : Int) (g : Nat) (W : World), Ext w W → IsI64 i → LP W g l → Calls Tryz.prog 106 #[.pointer (some ⟨g, 0, none⟩), .int .i64 i] W fun e w' => e = .returned (.tuple #[.string ⟨(atE l i).toArray⟩, .bool (inE l i)]) ∧ Ext W w'
def DAllC (LP : DctP) (w : World) : Prop := ∀ (l : List (List UInt8)) (g : Nat) (W : World), Ext w W → LP W g l → Calls Tryz.prog 18 #[.pointer (some ⟨g, 0, none⟩)] W (MadeTx W l)
/-- Are texts more than statements look at? -/
def Dic.greatE (l : List (List UInt8)) : Bool := decide (300 < l.length) || l.any fun s => decide (60 < s.length)
theorem Dic.great_no {l : List (List UInt8)} (h : greatE l = false) : l.length ≤ 300 ∧ ∀ s, s ∈ l → s.length ≤ 60 := by
  unfold greatE at h
  rw [Bool.or_eq_false_iff, decide_eq_false_iff_not, List.any_eq_false] at h
  exact ⟨by omega, fun s hs => by have := h.2 s hs; simpa using this⟩
attribute [local go_sem ↓] run_txtAt run_txtLen run_txtCut run_txtTop
end Go.Proofs.YtcphapdjimeoaaaGreat

