/- What a token that came in reads as. -/
import Derived.Test.YtklofjgfecpkiaaOpen
import Derived.Test.YtklofjgfecpkiaaTokVal
import Derived.Deep.Slices
import Derived.Deep.Strs
namespace Go.Proofs.Ytklofjgfecpkiaa
open Go.ChangeShapes Go.WideShapes Go.ChangeAt Go.WideMaps Go.WideElems Go.RowKit

theorem tok_cells : Try.prog.cellsOf 36 = 3 := by kernel_rfl
theorem open_tok {H : Type} {enc : TypeId × Value → H} {W : World} {cs : Array Value} {d : DataW H} {p : List MemPlace} (hs : cs.size = Try.prog.cellsOf 36) (h : DataW.Trod enc Try.prog W 0 (fun _ => true) true 36 (.agg cs) d p) :
    ∃ t : TokV, cs = #[.int .u8 (t.lit.toNat : Int), .int .i64 t.len, .int .i64 t.dist] ∧ t.ok := by
  obtain ⟨fuel, hf⟩ := h
  have hl : cs.toList.length = 3 := by rw [Array.length_toList, hs, tok_cells]
  rw [← Array.toArray_toList (xs := cs)]
  change DataW.trod enc Try.prog W 0 (fun _ => true) true fuel 36 cs.toList = some _ at hf
  generalize cs.toList = l at *
  obtain ⟨y0, y1, y2, q, _, _, g0, g1, g2⟩ := Deep.trod_struct3 Try.underlying36 hf
  have c0 : Try.prog.cellsOf 5 = 1 := by kernel_rfl
  have c1 : Try.prog.cellsOf 3 = 1 := by kernel_rfl
  match l, hl with
  | [v0, v1, v2], _ =>
    simp [c0, c1] at g0 g1 g2
    obtain ⟨z0, e0, _, w0⟩ := DataW.trod_int Try.underlying5 g0
    obtain ⟨z1, e1, _, w1⟩ := DataW.trod_int Try.underlying3 g1
    obtain ⟨z2, e2, _, w2⟩ := DataW.trod_int Try.underlying3 g2
    simp only [List.cons.injEq, and_true] at e0 e1 e2
    subst e0 e1 e2
    obtain ⟨a0, a1⟩ := bounds_u8 w0
    obtain ⟨b0, b1⟩ := bounds_i64 w1
    obtain ⟨d0, d1⟩ := bounds_i64 w2
    obtain ⟨z0, rfl⟩ := Int.eq_ofNat_of_zero_le a0
    have e8 : ((UInt8.ofNat z0).toNat : Int) = (z0 : Int) := by rw [UInt8.toNat_ofNat']; omega
    exact ⟨⟨UInt8.ofNat z0, z1, z2⟩, by rw [e8], ⟨b0, b1, d0, d1⟩⟩
end Go.Proofs.Ytklofjgfecpkiaa
