/- A load of a whole struct from the middle of a block, a store of one into a block that is known whole, each at its operation. -/
import Derived.Test.YtkfipfhmbhmamaaDoorB03
import Derived.Test.YtkfipfhmbhmamaaDoorB05
namespace Go.Proofs.YtkfipfhmbhmamaaDoor
open Go.RowKit

theorem exec_load_mid {a : Act} {oi : Oper} {W : World} (ty : TypeId) (x : Operand) (ho : oi.op = .load ty x) (b o : Nat) (hx : a.eval x = .pointer (some ⟨b, o, none⟩)) (cs : List Value) {d : TypeDesc} (hc : W.rangeAt b o cs)
    (hu : Tryd.prog.underlying ty = some d) (hd : d.isRow = true) (hi : (Tryd.prog.info? ty).map (·.size) = some cs.length) : (execOp a.eval oi).run Tryd.prog W = .ok (.value (.agg cs.toArray)) W := by
  unfold execOp
  simp only [ho, hx, Instr.loadAt, Instr.sureAddr, Sem.run_bind, Sem.run_pure, Result.andThen_ok, run_loadVar_mid W b o ty cs d hc hu hd hi]
theorem wpOper_putW {op : Oper} {a : Act} {w : World} {K : Act → World → Prop} {Q : Exit → Act → World → Prop} (ty : TypeId) (x y : Operand) (ho : op.op = .store ty x y)
    {g : Nat} {t : TypeId} {cs cells : Array Value} (hx : a.eval x = .pointer (some ⟨g, 0, none⟩)) (hy : a.eval y = .agg cells) (hw : Whole w g t cs) (hs : cells.size = cs.size)
    (hi : (Tryd.prog.info? ty).map (·.size) = some cells.size) (h1 : cells.all (·.oneCell') = true)
    (h : ∀ w', Whole w' g t cells → w.grownBy w' (some g) → K (a.put op.dst undef) w') : Oper.wp Tryd.prog op a w K Q := by
  refine wp_store_mid ty x y ho g 0 cells hx hy (fun j hj => ?_) hi h1 (h _ (hw.storeAll hs) (setCells_grown g _ _ _).1)
  rw [Nat.zero_add]
  refine ⟨?_, hw.frozen j⟩
  rw [hw.cell j, Array.getElem?_eq_getElem (by omega)]
  rfl
end Go.Proofs.YtkfipfhmbhmamaaDoor

