/- Blocks of the call's own and blocks known whole are left as they are by a loop's own records. -/
import Derived.Test.YtkfipfhmbhmamaaDoorB02
import Derived.Test.YtkfipfhmbhmamaaDoorB03
import Derived.RangeFuncNested
namespace Go.Proofs.YtkfipfhmbhmamaaDoor
open Go.RowKit

theorem Whole.turn {W W' : World} {g : Nat} {t : TypeId} {cs : Array Value} {row : Option Nat} (h : Whole W g t cs) (hg : W.grownBy W' row) (hr : ∀ r, row = some r → ∃ o : Obj, W.heap[r]? = some o ∧ o.isCells = false) : Whole W' g t cs :=
  (hg.block g h.lt fun e => by
    obtain ⟨o, h1, h2⟩ := hr g e.symm
    rw [show W.heap[g]? = _ from h] at h1
    cases h1
    cases h2).trans h
theorem OwnB.turn {W W' : World} {base : Nat} {v : Value} {l : List UInt8} {row : Option Nat} (h : OwnB W base v l) (hg : W.grownBy W' row) (hr : ∀ r, row = some r → ∃ o : Obj, W.heap[r]? = some o ∧ o.isCells = false) : OwnB W' base v l :=
  World.ownsRow.kept h hg (by
    rcases h.2 with ⟨rfl, _⟩ | ⟨g, cap, cur, rfl, _, hgg, _⟩
    · exact .inl rfl
    · refine .inr fun e => ?_
      obtain ⟨o, h1, h2⟩ := hr g e.symm
      rw [hgg] at h1
      cases h1
      cases h2)
end Go.Proofs.YtkfipfhmbhmamaaDoor

