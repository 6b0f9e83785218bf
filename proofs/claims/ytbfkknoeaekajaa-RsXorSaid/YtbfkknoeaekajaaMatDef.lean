/- Matrices as values: cells, products, what may be, where they lie. -/
import Derived.Test.YtbfkknoeaekajaaMatMake
namespace Go.Proofs.Ytbfkknoeaekajaa
open Go.RowKit

/-- The cell of a matrix. -/
def MV.at (m : MV) : Mat.M := fun i j => m.l.getD (i * m.c.toNat + j) 0
def MV.mulR (a b : MV) : MV := ⟨a.r, b.c, cellsOf b.c.toNat (Mat.mm a.c.toNat a.at b.at) (a.r.toNat * b.c.toNat)⟩
theorem fm_bits (x y : UInt8) : ((Gf.mul x.toNat y.toNat : Nat) : Int) = ((Mat.fm x y).toNat : Int) := by rw [Mat.fm_toNat]
theorem MV.may_iff {m : MV} : m.may = true ↔ 0 ≤ m.r ∧ m.r ≤ 255 ∧ 0 ≤ m.c ∧ m.c ≤ 255 ∧ (m.l.length : Int) = m.r * m.c := by simp [MV.may]

theorem u8_xor_byte8 (x y : UInt8) : bits .xor .u8 (x.toNat : Int) (y.toNat : Int) = (((x ^^^ y).toNat : Nat) : Int) := by rw [u8_xor_nat _ _ x.toNat_lt y.toNat_lt, UInt8.toNat_xor]
theorem MV.may_len {m : MV} (h : m.may = true) : m.l.length ≤ maxLen := by
  obtain ⟨q1, q2, q3, q4, q5⟩ := MV.may_iff.1 h
  have : m.r * m.c ≤ 255 * 255 := Int.mul_le_mul q2 q4 q3 (by decide)
  unfold maxLen
  omega
theorem MV.mulR_may {a b : MV} (ha : a.may = true) (hb : b.may = true) : (a.mulR b).may = true := by
  obtain ⟨a1, a2, a3, a4, a5⟩ := MV.may_iff.1 ha
  obtain ⟨b1, b2, b3, b4, b5⟩ := MV.may_iff.1 hb
  refine MV.may_iff.2 ⟨a1, a2, b3, b4, ?_⟩
  show ((cellsOf _ _ _).length : Int) = _
  rw [cellsOf_len, Int.natCast_mul, Int.toNat_of_nonneg a1, Int.toNat_of_nonneg b3]
  rfl
/-- A matrix that came in: block and capacity of its cells. -/
def MV.arg (m : MV) (A : Option Addr) (k : Nat) : Value := .agg #[.int .i64 m.r, .int .i64 m.c, .slice A m.l.length k]
/-- The cells of a matrix that came in lie in the world, below B. -/
def MV.lies (m : MV) (w : World) (A : Option Addr) (k : Nat) : Prop := Bytes w w.heap.size A m.l.length m.l ∧ m.l.length ≤ maxLen ∧ m.l.length ≤ k
theorem MV.lies.ext {m : MV} {w w' : World} {A : Option Addr} {k : Nat} (h : m.lies w A k) (hE : Ext w w') : m.lies w' A k := ⟨hE.bytes h.1, h.2⟩
def MV.mulE (a b : MV) : MV × Int := if a.may = true ∧ b.may = true ∧ a.c = b.r then (a.mulR b, 0) else (MV.zero, 13)
end Go.Proofs.Ytbfkknoeaekajaa
