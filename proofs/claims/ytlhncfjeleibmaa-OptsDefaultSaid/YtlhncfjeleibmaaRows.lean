/-
  No cell of these rows narrows 'for every input' (looked for: loops, veiled, ifaces, maps, wideKeys, modest, calm, conditions, laid).
  DERIVED. THE GIVEN ROWS OF THIS SEAT. 5 by the template 'for every input the law returns true; each argument reads behind the call as it read before'; 0 by the template 'total and deterministic' (their statements: YtlhncfjeleibmaaTotals.lean).
  GIVEN WITH THE SEED: the statements are not yours to turn. If you find one false, say at which input.
  Laid BY PROGRAM, IN A SANDBOX (cutbox-rows.mjs): the forced cells as the released guide's own fill.sh prints them over the translation dea5c33890aa6ca6… (all of the seat's roots in one cut). By AI agents, Wed Nov 11 2026. No macro, syntax, notation, axiom, sorry.
-/
import Derived.Test.YtlhncfjeleibmaaChecked
import GoSem.Claim
import GoSem.ClaimJoined
import GoSem.ClaimMapViews
import Derived.JoinedTies
import Derived.KernelRfl
namespace Go.Proofs.Ytlhncfjeleibmaa
/- THE CELL 'sum', in the pinned program and in every row, IS THE sha256 OF THE DUMP (.gsa) THAT YtlhncfjeleibmaaProg.lean LOADS. Nothing in Lean hashes anything: it is a label: what it is worth is what the hold of that sum in a sandbox is worth. -/
noncomputable def Try.pinned : Pinned := { name := "ytlhncfjeleibmaa", sum := "dea5c33890aa6ca6d5b8d1fc659d8f615ac79efcc4aac4c2aff4db3743c1c2b4", checked := Try.checked }
namespace Rows
def none {H : Type} : Left H := { results := [], args := [] }

/-- 'firkinlaw19.OptsChecks': WHATEVER THE INPUT: true; the input reads as it did. -/
def optsChecksSpec : ChangeSpec := { name := "optsChecks", fn := fun _ => fun
  | [d1, d2] => { results := [.lit (.bool true)], args := [d1, d2] }
  | _ => none }
def optsChecksRow : OpenClaim := { program := "ytlhncfjeleibmaa", sum := "dea5c33890aa6ca6d5b8d1fc659d8f615ac79efcc4aac4c2aff4db3743c1c2b4", func := "firkin/firkinlaw19.OptsChecks", spec := "optsChecks", apart := false }
def OptsChecksSaid : Prop := optsChecksRow.holds Try.pinned (OpenSpec.ofChange optsChecksSpec)

/-- ITS FALSE NEIGHBOUR: 'it returns false'. Refute it at one input. -/
def optsChecksWrong : ChangeSpec := { name := "optsChecks", fn := fun _ => fun
  | [d1, d2] => { results := [.lit (.bool false)], args := [d1, d2] }
  | _ => none }
def OptsChecksWrongFalsely : Prop := optsChecksRow.holds Try.pinned (OpenSpec.ofChange optsChecksWrong)

/-- 'firkinlaw19.OptsGrows': WHATEVER THE INPUT: true; the input reads as it did. -/
def optsGrowsSpec : ChangeSpec := { name := "optsGrows", fn := fun _ => fun
  | [d1, d2] => { results := [.lit (.bool true)], args := [d1, d2] }
  | _ => none }
def optsGrowsRow : OpenClaim := { program := "ytlhncfjeleibmaa", sum := "dea5c33890aa6ca6d5b8d1fc659d8f615ac79efcc4aac4c2aff4db3743c1c2b4", func := "firkin/firkinlaw19.OptsGrows", spec := "optsGrows", apart := false }
def OptsGrowsSaid : Prop := optsGrowsRow.holds Try.pinned (OpenSpec.ofChange optsGrowsSpec)

/-- ITS FALSE NEIGHBOUR: 'it returns false'. Refute it at one input. -/
def optsGrowsWrong : ChangeSpec := { name := "optsGrows", fn := fun _ => fun
  | [d1, d2] => { results := [.lit (.bool false)], args := [d1, d2] }
  | _ => none }
def OptsGrowsWrongFalsely : Prop := optsGrowsRow.holds Try.pinned (OpenSpec.ofChange optsGrowsWrong)

/-- 'firkinlaw19.OptsDefault': WHATEVER THE INPUT: true; the input reads as it did. -/
def optsDefaultSpec : ChangeSpec := { name := "optsDefault", fn := fun _ => fun
  | [d] => { results := [.lit (.bool true)], args := [d] }
  | _ => none }
def optsDefaultRow : OpenClaim := { program := "ytlhncfjeleibmaa", sum := "dea5c33890aa6ca6d5b8d1fc659d8f615ac79efcc4aac4c2aff4db3743c1c2b4", func := "firkin/firkinlaw19.OptsDefault", spec := "optsDefault", apart := false }
def OptsDefaultSaid : Prop := optsDefaultRow.holds Try.pinned (OpenSpec.ofChange optsDefaultSpec)

/-- ITS FALSE NEIGHBOUR: 'it returns false'. Refute it at one input. -/
def optsDefaultWrong : ChangeSpec := { name := "optsDefault", fn := fun _ => fun
  | [d] => { results := [.lit (.bool false)], args := [d] }
  | _ => none }
def OptsDefaultWrongFalsely : Prop := optsDefaultRow.holds Try.pinned (OpenSpec.ofChange optsDefaultWrong)

/-- 'firkinlaw19.OptsOne': WHATEVER THE INPUT: true; the input reads as it did. -/
def optsOneSpec : ChangeSpec := { name := "optsOne", fn := fun _ => fun
  | [d1, d2, d3] => { results := [.lit (.bool true)], args := [d1, d2, d3] }
  | _ => none }
def optsOneRow : OpenClaim := { program := "ytlhncfjeleibmaa", sum := "dea5c33890aa6ca6d5b8d1fc659d8f615ac79efcc4aac4c2aff4db3743c1c2b4", func := "firkin/firkinlaw19.OptsOne", spec := "optsOne", apart := false }
def OptsOneSaid : Prop := optsOneRow.holds Try.pinned (OpenSpec.ofChange optsOneSpec)

/-- ITS FALSE NEIGHBOUR: 'it returns false'. Refute it at one input. -/
def optsOneWrong : ChangeSpec := { name := "optsOne", fn := fun _ => fun
  | [d1, d2, d3] => { results := [.lit (.bool false)], args := [d1, d2, d3] }
  | _ => none }
def OptsOneWrongFalsely : Prop := optsOneRow.holds Try.pinned (OpenSpec.ofChange optsOneWrong)

/-- 'firkinlaw19.OptsMarks': WHATEVER THE INPUT: true; the input reads as it did. -/
def optsMarksSpec : ChangeSpec := { name := "optsMarks", fn := fun _ => fun
  | [d1, d2] => { results := [.lit (.bool true)], args := [d1, d2] }
  | _ => none }
def optsMarksRow : OpenClaim := { program := "ytlhncfjeleibmaa", sum := "dea5c33890aa6ca6d5b8d1fc659d8f615ac79efcc4aac4c2aff4db3743c1c2b4", func := "firkin/firkinlaw19.OptsMarks", spec := "optsMarks", apart := false }
def OptsMarksSaid : Prop := optsMarksRow.holds Try.pinned (OpenSpec.ofChange optsMarksSpec)

/-- ITS FALSE NEIGHBOUR: 'it returns false'. Refute it at one input. -/
def optsMarksWrong : ChangeSpec := { name := "optsMarks", fn := fun _ => fun
  | [d1, d2] => { results := [.lit (.bool false)], args := [d1, d2] }
  | _ => none }
def OptsMarksWrongFalsely : Prop := optsMarksRow.holds Try.pinned (OpenSpec.ofChange optsMarksWrong)

/- THE SECOND FORM. 'bulk': how many values and letters a reading holds, each counted each time it is reached (what is shared counts as often as it is met; a slice's spare places count too). A statement '..UptoSaid' is the law's where the arguments, and the package variables that the reading takes, are together of bulk at most 1048576: NARROWER than '..Said'. Prove '..Said' where nothing that the law and all that it calls make is longer than what came in: it says more and counts as full. Else prove '..UptoSaid'. A law counts once. -/
mutual
def uptoBulk {H : Type} : DataW H → Nat
  | .lit (.string bytes) => bytes.length + 1
  | .lit _ => 1
  | .nil => 1
  | .ptr d => uptoBulk d + 1
  | .slice elems spare => uptoBulkAll elems + uptoBulkAll spare + 1
  | .agg parts => uptoBulkAll parts + 1
  | .iface _ d => uptoBulk d + 1
  | .map entries => uptoBulkEntries entries + 1
  | .held _ => 1
def uptoBulkAll {H : Type} : List (DataW H) → Nat
  | [] => 0
  | d :: r => uptoBulk d + uptoBulkAll r
def uptoBulkEntries {H : Type} : List (Lit × DataW H) → Nat
  | [] => 0
  | x :: r => uptoBulkEntry x + uptoBulkEntries r
def uptoBulkEntry {H : Type} : Lit × DataW H → Nat
  | (.string bytes, d) => bytes.length + uptoBulk d + 1
  | (_, d) => uptoBulk d + 1
 end
def uptoSmall : (H : Type) → List (DataW H) → Bool := fun _ ds => decide (uptoBulkAll ds ≤ 1048576)
def OpenSpec.upto (s : _root_.Go.ChangeSpec) : _root_.Go.OpenSpec := { _root_.Go.OpenSpec.ofChange s with cond := some uptoSmall }

/-- 'firkinlaw19.OptsChecks', WHERE WHAT IT READS IS OF BULK AT MOST 1048576: true; the input reads as it did. -/
def optsChecksUptoRow : OpenClaim := { program := "ytlhncfjeleibmaa", sum := "dea5c33890aa6ca6d5b8d1fc659d8f615ac79efcc4aac4c2aff4db3743c1c2b4", func := "firkin/firkinlaw19.OptsChecks", spec := "optsChecks", apart := false, narrowed := true }
def OptsChecksUptoSaid : Prop := optsChecksUptoRow.holds Try.pinned (OpenSpec.upto optsChecksSpec)

/-- 'firkinlaw19.OptsGrows', WHERE WHAT IT READS IS OF BULK AT MOST 1048576: true; the input reads as it did. -/
def optsGrowsUptoRow : OpenClaim := { program := "ytlhncfjeleibmaa", sum := "dea5c33890aa6ca6d5b8d1fc659d8f615ac79efcc4aac4c2aff4db3743c1c2b4", func := "firkin/firkinlaw19.OptsGrows", spec := "optsGrows", apart := false, narrowed := true }
def OptsGrowsUptoSaid : Prop := optsGrowsUptoRow.holds Try.pinned (OpenSpec.upto optsGrowsSpec)

/-- 'firkinlaw19.OptsDefault', WHERE WHAT IT READS IS OF BULK AT MOST 1048576: true; the input reads as it did. -/
def optsDefaultUptoRow : OpenClaim := { program := "ytlhncfjeleibmaa", sum := "dea5c33890aa6ca6d5b8d1fc659d8f615ac79efcc4aac4c2aff4db3743c1c2b4", func := "firkin/firkinlaw19.OptsDefault", spec := "optsDefault", apart := false, narrowed := true }
def OptsDefaultUptoSaid : Prop := optsDefaultUptoRow.holds Try.pinned (OpenSpec.upto optsDefaultSpec)

/-- 'firkinlaw19.OptsOne', WHERE WHAT IT READS IS OF BULK AT MOST 1048576: true; the input reads as it did. -/
def optsOneUptoRow : OpenClaim := { program := "ytlhncfjeleibmaa", sum := "dea5c33890aa6ca6d5b8d1fc659d8f615ac79efcc4aac4c2aff4db3743c1c2b4", func := "firkin/firkinlaw19.OptsOne", spec := "optsOne", apart := false, narrowed := true }
def OptsOneUptoSaid : Prop := optsOneUptoRow.holds Try.pinned (OpenSpec.upto optsOneSpec)

/-- 'firkinlaw19.OptsMarks', WHERE WHAT IT READS IS OF BULK AT MOST 1048576: true; the input reads as it did. -/
def optsMarksUptoRow : OpenClaim := { program := "ytlhncfjeleibmaa", sum := "dea5c33890aa6ca6d5b8d1fc659d8f615ac79efcc4aac4c2aff4db3743c1c2b4", func := "firkin/firkinlaw19.OptsMarks", spec := "optsMarks", apart := false, narrowed := true }
def OptsMarksUptoSaid : Prop := optsMarksUptoRow.holds Try.pinned (OpenSpec.upto optsMarksSpec)

end Rows
end Go.Proofs.Ytlhncfjeleibmaa
