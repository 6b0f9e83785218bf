/- Options as values; which ones may be for which version; what options that came in read as. -/
import Derived.Test.YtlhncfjeleibmaaRow2
import Derived.Test.YtlhncfjeleibmaaMod
import Derived.Test.YtlhncfjeleibmaaOpen
import Derived.Deep.Slices
import Derived.Laws.StructEq
namespace Go.Proofs.Ytlhncfjeleibmaa
open Go.ChangeShapes Go.WideShapes Go.ChangeAt Go.WideMaps Go.WideElems Go.RowKit

structure OptV where
  block : Int
  plain : Bool
  bucket : Int
  data : Int
  parity : Int
  chunk : Int
def i64ok (x : Int) : Prop := -9223372036854775808 ≤ x ∧ x ≤ 9223372036854775807
def OptV.ok (o : OptV) : Prop := i64ok o.block ∧ i64ok o.bucket ∧ i64ok o.data ∧ i64ok o.parity ∧ i64ok o.chunk
/-- The cells of options. -/
def optC (b : Int) (p : Bool) (k d y c : Int) : Array Value := #[.int .i64 b, .bool p, .int .i64 k, .int .i64 d, .int .i64 y, .int .i64 c]
def optV (o : OptV) : Value := .agg (optC o.block o.plain o.bucket o.data o.parity o.chunk)
theorem opt_info : (Try.prog.info? 23).map (·.size) = some 6 := by kernel_rfl
theorem opt_one (b : Int) (p : Bool) (k d y c : Int) : (optC b p k d y c).all (·.oneCell') = true := by
  unfold optC
  simp
  exact ⟨rfl, rfl, rfl, rfl, rfl, rfl⟩

namespace Opt
/-- Options that may be for version v (1, 2 or 3). -/
def MayE (v b k d y c : Int) : Prop :=
  (16 ≤ b ∧ b ≤ 32768) ∧ ((v = 1 ∧ k = 0 ∧ d = 0 ∧ y = 0 ∧ c = 0) ∨ (v = 2 ∧ 1 ≤ k ∧ k ≤ 64 ∧ d = 0 ∧ y = 0 ∧ c = 0) ∨
    (v = 3 ∧ 1 ≤ k ∧ k ≤ 64 ∧ 1 ≤ d ∧ 0 ≤ y ∧ d + y ≤ 255 ∧ 1 ≤ c ∧ c ≤ 4096))
instance (v b k d y c : Int) : Decidable (MayE v b k d y c) := by unfold MayE; infer_instance
/-- What Check tells. -/
def chk (v b k d y c : Int) : Int := if 1 ≤ v ∧ v ≤ 3 then (if MayE v b k d y c then 0 else 9) else 4
def chkO (v : Int) (o : OptV) : Int := chk v o.block o.bucket o.data o.parity o.chunk
theorem chk_4 {v b k d y c : Int} (h : ¬ (1 ≤ v ∧ v ≤ 3)) : chk v b k d y c = 4 := if_neg h
theorem chk_9 {v b k d y c : Int} (h1 : 1 ≤ v) (h3 : v ≤ 3) (h : ¬ MayE v b k d y c) : chk v b k d y c = 9 := by unfold chk; rw [if_pos ⟨h1, h3⟩, if_neg h]
theorem chk_0 {v b k d y c : Int} (h1 : 1 ≤ v) (h3 : v ≤ 3) (h : MayE v b k d y c) : chk v b k d y c = 0 := by unfold chk; rw [if_pos ⟨h1, h3⟩, if_pos h]
end Opt

theorem opt_cells : Try.prog.cellsOf 23 = 6 := by kernel_rfl
set_option maxRecDepth 1000000 in
theorem open_opt {H : Type} {enc : TypeId × Value → H} {W : World} {cs : Array Value} {d : DataW H} {p : List MemPlace} (hs : cs.size = Try.prog.cellsOf 23) (h : DataW.Trod enc Try.prog W 0 (fun _ => true) true 23 (.agg cs) d p) :
    ∃ t : OptV, cs = optC t.block t.plain t.bucket t.data t.parity t.chunk ∧ t.ok := by
  obtain ⟨fuel, hf⟩ := h
  have hl : cs.toList.length = 6 := by rw [Array.length_toList, hs, opt_cells]
  rw [← Array.toArray_toList (xs := cs)]
  change DataW.trod enc Try.prog W 0 (fun _ => true) true fuel 23 cs.toList = some _ at hf
  generalize cs.toList = l at *
  obtain ⟨xs, q, _, _, _, hlen, hx⟩ := DataW.trod_struct Try.underlying23 hf
  have c1 : Try.prog.cellsOf 3 = 1 := by kernel_rfl
  have c2 : Try.prog.cellsOf 4 = 1 := by kernel_rfl
  match l, hl, xs, hlen with
  | [v0, v1, v2, v3, v4, v5], _, [y0, y1, y2, y3, y4, y5], _ =>
    have g0 := hx 0 _ rfl
    have g1 := hx 1 _ rfl
    have g2 := hx 2 _ rfl
    have g3 := hx 3 _ rfl
    have g4 := hx 4 _ rfl
    have g5 := hx 5 _ rfl
    simp [c1, c2] at g0 g1 g2 g3 g4 g5
    obtain ⟨z0, e0, _, w0⟩ := DataW.trod_int Try.underlying3 g0
    obtain ⟨z1, e1, _⟩ := DataW.trod_bool Try.underlying4 g1
    obtain ⟨z2, e2, _, w2⟩ := DataW.trod_int Try.underlying3 g2
    obtain ⟨z3, e3, _, w3⟩ := DataW.trod_int Try.underlying3 g3
    obtain ⟨z4, e4, _, w4⟩ := DataW.trod_int Try.underlying3 g4
    obtain ⟨z5, e5, _, w5⟩ := DataW.trod_int Try.underlying3 g5
    simp only [List.cons.injEq, and_true] at e0 e1 e2 e3 e4 e5
    subst e0 e1 e2 e3 e4 e5
    exact ⟨⟨z0, z1, z2, z3, z4, z5⟩, rfl, ⟨bounds_i64 w0, bounds_i64 w2, bounds_i64 w3, bounds_i64 w4, bounds_i64 w5⟩⟩
end Go.Proofs.Ytlhncfjeleibmaa
