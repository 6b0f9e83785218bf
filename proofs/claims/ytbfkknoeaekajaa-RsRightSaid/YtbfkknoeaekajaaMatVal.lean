/- Matrices as values; the document's May. -/
import Derived.Test.YtbfkknoeaekajaaMod
import Derived.Test.YtbfkknoeaekajaaConv
import Derived.Deep.QuietTactic
import Derived.BigQuiet
import Derived.Laws.ResultCell
namespace Go.Proofs.Ytbfkknoeaekajaa
open Go.RowKit

/-- A matrix, as it reads. -/
structure MV where
  r : Int
  c : Int
  l : List UInt8
instance : Inhabited MV := ⟨⟨0, 0, []⟩⟩
def MV.zero : MV := ⟨0, 0, []⟩
/-- May it be? -/
def MV.may (m : MV) : Bool := decide (0 ≤ m.r ∧ m.r ≤ 255 ∧ 0 ≤ m.c ∧ m.c ≤ 255 ∧ (m.l.length : Int) = m.r * m.c)
/-- The cells of a matrix of c columns, row by row: the first n of them. -/
def cellsOf (c : Nat) (f : Nat → Nat → UInt8) (n : Nat) : List UInt8 := (List.range n).map fun i => f (i / c) (i % c)
theorem cellsOf_succ (c : Nat) (f : Nat → Nat → UInt8) (n : Nat) : cellsOf c f (n + 1) = cellsOf c f n ++ [f (n / c) (n % c)] := by simp [cellsOf, List.range_succ]
theorem cellsOf_len (c : Nat) (f : Nat → Nat → UInt8) (n : Nat) : (cellsOf c f n).length = n := by simp [cellsOf]
theorem cellsOf_zero (c : Nat) (f : Nat → Nat → UInt8) : cellsOf c f 0 = [] := rfl
/-- The value of a matrix whose cells are told by v. -/
def matV (r c : Int) (v : Value) : Value := .agg #[.int .i64 r, .int .i64 c, v]
/-- Behind a call that makes a matrix and tells an error. -/
def MadeM (w : World) (m : MV) (err : Int) (e : Ending) (w' : World) : Prop := ∃ v, e = .returned (.tuple #[matV m.r m.c v, .int .i64 err]) ∧ OwnB w' w.heap.size v m.l ∧ Ext w w'
theorem mat_info : (Try.prog.info? 42).map (·.size) = some 3 := by kernel_rfl
/-- The results are a matrix in a block, and what a slot holds. -/
theorem results_mat {fn : Func} {p u : Tmp} (h : fn.results = #[.cell p 42, .tmp u]) (tmps : Array Value) {w : World} {g : Nat} {cs : Array Value} {x : Value} (hp : tmps.getD p undef = .pointer (some ⟨g, 0, none⟩)) (hx : tmps.getD u undef = x)
    (hW : Whole w g 42 cs) (hs : cs.size = 3) : (results fn tmps).run Try.prog w = .ok (.tuple #[.agg cs, x]) w := by
  rw [results_cell_tmp h, hp, hx]
  have hl := run_loadVar_row (P := Try.prog) w g 42 42 cs (0, 0) _ hW Try.underlying42 rfl (by rw [hs]; exact mat_info)
  simp [asAddr, Result.andThen, hl]

set_option maxHeartbeats 1000000 in
set_option maxRecDepth 100000 in
theorem refMay_any (m : MV) (A : Option Addr) (n cap : Nat) (w : World) (hl : m.l.length = n) (hn : n ≤ maxLen) :
    Calls Try.prog 29 #[.agg #[.int .i64 m.r, .int .i64 m.c, .slice A n cap]] w fun e w' => e = .returned (.bool m.may) ∧ Ext w w' := by
  obtain ⟨r, c, l⟩ := m
  dsimp only at hl ⊢
  subst hl
  have hE := extNew w (.cells #[.int .i64 r, .int .i64 c, .slice A l.length cap] 42)
  have HM := hide (show MV.may ⟨r, c, l⟩ = decide (0 ≤ r ∧ r ≤ 255 ∧ 0 ≤ c ∧ c ≤ 255 ∧ (l.length : Int) = r * c) from rfl)
  go_enter Try.func29, Try.ntmps29
  go_wp2
  all_goals go_ret
  all_goals refine ⟨ret_bool ?_, hE⟩
  all_goals rw [HM.out]
  · have h1 : 0 ≤ r * c := Int.mul_nonneg (by assumption) (by assumption)
    have h2 : r * c ≤ 255 * 255 := Int.mul_le_mul (by assumption) (by assumption) (by assumption) (by decide)
    have hw : wrap64 (r * c) = r * c := IntWalk.wrap64_in _ ⟨by omega, by omega⟩
    rw [Bool.eq_iff_iff]
    simp only [hw, beq_iff_eq, decide_eq_true_eq]
    omega
  all_goals (symm; exact decide_eq_false (by omega))
end Go.Proofs.Ytbfkknoeaekajaa
