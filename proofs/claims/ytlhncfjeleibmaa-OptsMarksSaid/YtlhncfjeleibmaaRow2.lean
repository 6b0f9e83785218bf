/- Results: a row of cells in a block, and what a slot holds. -/
import Derived.Test.YtlhncfjeleibmaaWhole
import Derived.Laws.ResultCell
namespace Go.Proofs.Ytlhncfjeleibmaa
open Go.RowKit

/-- The results are a row of cells in a block, and what a slot holds. -/
theorem results_row2 {fn : Func} {p u : Tmp} {ty : TypeId} (h : fn.results = #[.cell p ty, .tmp u]) (tmps : Array Value) {w : World} {g : Nat} {cs : Array Value} {x : Value} (hp : tmps.getD p undef = .pointer (some ⟨g, 0, none⟩)) (hx : tmps.getD u undef = x)
    (hl : (loadVar ty ⟨g, 0, none⟩).run Try.prog w = .ok (.agg cs) w) : (results fn tmps).run Try.prog w = .ok (.tuple #[.agg cs, x]) w := by
  rw [results_cell_tmp h, hp, hx]
  simp [asAddr, Result.andThen, hl]
end Go.Proofs.Ytlhncfjeleibmaa
