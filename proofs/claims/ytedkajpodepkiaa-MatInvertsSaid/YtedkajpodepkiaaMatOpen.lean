/- What matrices that came in read as. -/
import Derived.Test.YtedkajpodepkiaaOpen
import Derived.Test.YtedkajpodepkiaaMatLaw
import Derived.Deep.Slices
import Derived.Deep.Strs
namespace Go.Proofs.Ytedkajpodepkiaa
open Go.ChangeShapes Go.WideShapes Go.ChangeAt Go.WideMaps Go.WideElems Go.RowKit

theorem addr_addM (b off i : Nat) : (⟨b, off, none⟩ : Addr).add i = ⟨b, off + i, none⟩ := by unfold Addr.add; split <;> simp_all
theorem mat_cells : Try.prog.cellsOf 24 = 3 := by kernel_rfl
/-- The three cells of a matrix. -/
theorem open_mat_cs {H : Type} {enc : TypeId × Value → H} {W : World} {fuel : Nat} {cs : List Value} {x : DataW H × List MemPlace} (hl : cs.length = 3) (hf : DataW.trod enc Try.prog W 0 (fun _ => true) true fuel 24 cs = some x) :
    ∃ (m : MV) (A : Option Addr) (k : Nat), cs = [.int .i64 m.r, .int .i64 m.c, .slice A m.l.length k] ∧ m.lies W A k := by
  obtain ⟨y0, y1, y2, q, _, _, g0, g1, g2⟩ := Deep.trod_struct3 Try.underlying24 hf
  have c0 : Try.prog.cellsOf 3 = 1 := by kernel_rfl
  have c2 : Try.prog.cellsOf 22 = 1 := by kernel_rfl
  match cs, hl with
  | [v0, v1, v2], _ =>
    simp [c0, c2] at g0 g1 g2
    obtain ⟨z0, e0, _, _⟩ := DataW.trod_int Try.underlying3 g0
    obtain ⟨z1, e1, _, _⟩ := DataW.trod_int Try.underlying3 g1
    obtain ⟨A, n, k, l, e2, h1, h2, h3⟩ := open_bytes_cs g2
    simp only [List.cons.injEq, and_true] at e0 e1 e2
    subst e0 e1 e2
    have hn := h3.1
    subst hn
    exact ⟨⟨z0, z1, l⟩, A, k, rfl, h3, Nat.le_trans h1 h2, h1⟩
theorem open_mat {H : Type} {enc : TypeId × Value → H} {W : World} {cs : Array Value} {d : DataW H} {p : List MemPlace} (hs : cs.size = Try.prog.cellsOf 24) (h : DataW.Trod enc Try.prog W 0 (fun _ => true) true 24 (.agg cs) d p) :
    ∃ (m : MV) (A : Option Addr) (k : Nat), cs = #[.int .i64 m.r, .int .i64 m.c, .slice A m.l.length k] ∧ m.lies W A k := by
  obtain ⟨fuel, hf⟩ := h
  obtain ⟨m, A, k, he, hm⟩ := open_mat_cs (cs := cs.toList) (by rw [Array.length_toList, hs, mat_cells]) hf
  exact ⟨m, A, k, by rw [← Array.toArray_toList (xs := cs), he], hm⟩
end Go.Proofs.Ytedkajpodepkiaa
