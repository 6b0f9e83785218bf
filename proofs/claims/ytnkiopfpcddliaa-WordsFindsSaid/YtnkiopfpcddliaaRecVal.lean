/- Records as values; what a record that came in reads as. -/
import Derived.Test.YtnkiopfpcddliaaOpen
import Derived.Test.YtnkiopfpcddliaaTxtVal
import Derived.Deep.Slices
import Derived.Deep.Strs
namespace Go.Proofs.Ytnkiopfpcddliaa
open Go.ChangeShapes Go.WideShapes Go.ChangeAt Go.WideMaps Go.WideElems Go.RowKit

structure RecV where
  time : Int
  lv : Int
  src : List UInt8
  text : List UInt8
def RecV.ok (r : RecV) : Prop := (0 ≤ r.time ∧ r.time < 18446744073709551616) ∧ (0 ≤ r.lv ∧ r.lv < 256) ∧ r.src.length ≤ maxLen ∧ r.text.length ≤ maxLen
theorem rec_cells : Try.prog.cellsOf 31 = 4 := by kernel_rfl
set_option maxRecDepth 1000000 in
theorem open_rec {H : Type} {enc : TypeId × Value → H} {W : World} {cs : Array Value} {d : DataW H} {p : List MemPlace} (hs : cs.size = Try.prog.cellsOf 31) (h : DataW.Trod enc Try.prog W 0 (fun _ => true) true 31 (.agg cs) d p) :
    ∃ r : RecV, cs = #[.int .u64 r.time, .int .u8 r.lv, .string ⟨r.src.toArray⟩, .string ⟨r.text.toArray⟩] ∧ r.ok := by
  obtain ⟨fuel, hf⟩ := h
  have hl : cs.toList.length = 4 := by rw [Array.length_toList, hs, rec_cells]
  rw [← Array.toArray_toList (xs := cs)]
  change DataW.trod enc Try.prog W 0 (fun _ => true) true fuel 31 cs.toList = some _ at hf
  generalize cs.toList = l at *
  obtain ⟨xs, q, _, _, _, hlen, hx⟩ := DataW.trod_struct Try.underlying31 hf
  have c1 : Try.prog.cellsOf 29 = 1 := by kernel_rfl
  have c2 : Try.prog.cellsOf 5 = 1 := by kernel_rfl
  have c3 : Try.prog.cellsOf 9 = 1 := by kernel_rfl
  match l, hl, xs, hlen with
  | [v0, v1, v2, v3], _, [y0, y1, y2, y3], _ =>
    have g0 := hx 0 _ rfl
    have g1 := hx 1 _ rfl
    have g2 := hx 2 _ rfl
    have g3 := hx 3 _ rfl
    simp [c1, c2, c3] at g0 g1 g2 g3
    obtain ⟨z0, e0, _, w0⟩ := DataW.trod_int Try.underlying29 g0
    obtain ⟨z1, e1, _, w1⟩ := DataW.trod_int Try.underlying5 g1
    obtain ⟨z2, e2, _, w2⟩ := DataW.trod_string Try.underlying9 g2
    obtain ⟨z3, e3, _, w3⟩ := DataW.trod_string Try.underlying9 g3
    simp only [List.cons.injEq, and_true] at e0 e1 e2 e3
    subst e0 e1 e2 e3
    obtain ⟨s2, rfl⟩ := txt_of z2
    obtain ⟨s3, rfl⟩ := txt_of z3
    obtain ⟨a0, a1⟩ := bounds_u64 w0
    obtain ⟨b0, b1⟩ := bounds_u8 w1
    rw [txt_size] at w2 w3
    exact ⟨⟨z0, z1, s2, s3⟩, rfl, ⟨a0, by show z0 < 18446744073709551616; omega⟩, ⟨b0, by show z1 < 256; omega⟩, w2, w3⟩
end Go.Proofs.Ytnkiopfpcddliaa
