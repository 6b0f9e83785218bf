/-
  No cell of these rows narrows 'for every input' (looked for: loops, veiled, ifaces, maps, wideKeys, modest, calm, conditions, laid).
  DERIVED. THE GIVEN ROWS OF THIS SEAT. 7 by the template 'for every input the law returns true; each argument reads behind the call as it read before'; 0 by the template 'total and deterministic' (their statements: YtaohdnhfodkeoaaTotals.lean).
  GIVEN WITH THE SEED: the statements are not yours to turn. If you find one false, say at which input.
  Laid BY PROGRAM, IN A SANDBOX (cutbox-rows.mjs): the forced cells as the released guide's own fill.sh prints them over the translation 65b9734d33cd17d5… (all of the seat's roots in one cut). By AI agents, Wed Nov 11 2026. No macro, syntax, notation, axiom, sorry.
-/
import Derived.Test.YtaohdnhfodkeoaaChecked
import GoSem.Claim
import GoSem.ClaimJoined
import GoSem.ClaimMapViews
import Derived.JoinedTies
import Derived.KernelRfl
namespace Go.Proofs.Ytaohdnhfodkeoaa
/- THE CELL 'sum', in the pinned program and in every row, IS THE sha256 OF THE DUMP (.gsa) THAT YtaohdnhfodkeoaaProg.lean LOADS. Nothing in Lean hashes anything: it is a label: what it is worth is what the hold of that sum in a sandbox is worth. -/
noncomputable def Try.pinned : Pinned := { name := "ytaohdnhfodkeoaa", sum := "65b9734d33cd17d5b14e80e27089de1be2e76900d15e1c2826300bac425e6b85", checked := Try.checked }
namespace Rows
def none {H : Type} : Left H := { results := [], args := [] }

/-- 'firkinlaw11.ToksSplits': WHATEVER THE INPUT: true; the input reads as it did. -/
def toksSplitsSpec : ChangeSpec := { name := "toksSplits", fn := fun _ => fun
  | [d1, d2] => { results := [.lit (.bool true)], args := [d1, d2] }
  | _ => none }
def toksSplitsRow : OpenClaim := { program := "ytaohdnhfodkeoaa", sum := "65b9734d33cd17d5b14e80e27089de1be2e76900d15e1c2826300bac425e6b85", func := "firkin/firkinlaw11.ToksSplits", spec := "toksSplits", apart := false }
def ToksSplitsSaid : Prop := toksSplitsRow.holds Try.pinned (OpenSpec.ofChange toksSplitsSpec)

/-- ITS FALSE NEIGHBOUR: 'it returns false'. Refute it at one input. -/
def toksSplitsWrong : ChangeSpec := { name := "toksSplits", fn := fun _ => fun
  | [d1, d2] => { results := [.lit (.bool false)], args := [d1, d2] }
  | _ => none }
def ToksSplitsWrongFalsely : Prop := toksSplitsRow.holds Try.pinned (OpenSpec.ofChange toksSplitsWrong)

/-- 'firkinlaw11.ToksJoins': WHATEVER THE INPUT: true; the input reads as it did. -/
def toksJoinsSpec : ChangeSpec := { name := "toksJoins", fn := fun _ => fun
  | [d1, d2] => { results := [.lit (.bool true)], args := [d1, d2] }
  | _ => none }
def toksJoinsRow : OpenClaim := { program := "ytaohdnhfodkeoaa", sum := "65b9734d33cd17d5b14e80e27089de1be2e76900d15e1c2826300bac425e6b85", func := "firkin/firkinlaw11.ToksJoins", spec := "toksJoins", apart := false }
def ToksJoinsSaid : Prop := toksJoinsRow.holds Try.pinned (OpenSpec.ofChange toksJoinsSpec)

/-- ITS FALSE NEIGHBOUR: 'it returns false'. Refute it at one input. -/
def toksJoinsWrong : ChangeSpec := { name := "toksJoins", fn := fun _ => fun
  | [d1, d2] => { results := [.lit (.bool false)], args := [d1, d2] }
  | _ => none }
def ToksJoinsWrongFalsely : Prop := toksJoinsRow.holds Try.pinned (OpenSpec.ofChange toksJoinsWrong)

/-- 'firkinlaw11.ToksCounts': WHATEVER THE INPUT: true; the input reads as it did. -/
def toksCountsSpec : ChangeSpec := { name := "toksCounts", fn := fun _ => fun
  | [d] => { results := [.lit (.bool true)], args := [d] }
  | _ => none }
def toksCountsRow : OpenClaim := { program := "ytaohdnhfodkeoaa", sum := "65b9734d33cd17d5b14e80e27089de1be2e76900d15e1c2826300bac425e6b85", func := "firkin/firkinlaw11.ToksCounts", spec := "toksCounts", apart := false }
def ToksCountsSaid : Prop := toksCountsRow.holds Try.pinned (OpenSpec.ofChange toksCountsSpec)

/-- ITS FALSE NEIGHBOUR: 'it returns false'. Refute it at one input. -/
def toksCountsWrong : ChangeSpec := { name := "toksCounts", fn := fun _ => fun
  | [d] => { results := [.lit (.bool false)], args := [d] }
  | _ => none }
def ToksCountsWrongFalsely : Prop := toksCountsRow.holds Try.pinned (OpenSpec.ofChange toksCountsWrong)

/-- 'firkinlaw11.ToksWrites': WHATEVER THE INPUT: true; the input reads as it did. -/
def toksWritesSpec : ChangeSpec := { name := "toksWrites", fn := fun _ => fun
  | [d] => { results := [.lit (.bool true)], args := [d] }
  | _ => none }
def toksWritesRow : OpenClaim := { program := "ytaohdnhfodkeoaa", sum := "65b9734d33cd17d5b14e80e27089de1be2e76900d15e1c2826300bac425e6b85", func := "firkin/firkinlaw11.ToksWrites", spec := "toksWrites", unfollowed := true, recurses := true, apart := false }
def ToksWritesSaid : Prop := toksWritesRow.holds Try.pinned (OpenSpec.ofChange toksWritesSpec)

/-- ITS FALSE NEIGHBOUR: 'it returns false'. Refute it at one input. -/
def toksWritesWrong : ChangeSpec := { name := "toksWrites", fn := fun _ => fun
  | [d] => { results := [.lit (.bool false)], args := [d] }
  | _ => none }
def ToksWritesWrongFalsely : Prop := toksWritesRow.holds Try.pinned (OpenSpec.ofChange toksWritesWrong)

/-- 'firkinlaw11.ToksReads': WHATEVER THE INPUT: true; the input reads as it did. -/
def toksReadsSpec : ChangeSpec := { name := "toksReads", fn := fun _ => fun
  | [d1, d2] => { results := [.lit (.bool true)], args := [d1, d2] }
  | _ => none }
def toksReadsRow : OpenClaim := { program := "ytaohdnhfodkeoaa", sum := "65b9734d33cd17d5b14e80e27089de1be2e76900d15e1c2826300bac425e6b85", func := "firkin/firkinlaw11.ToksReads", spec := "toksReads", apart := false }
def ToksReadsSaid : Prop := toksReadsRow.holds Try.pinned (OpenSpec.ofChange toksReadsSpec)

/-- ITS FALSE NEIGHBOUR: 'it returns false'. Refute it at one input. -/
def toksReadsWrong : ChangeSpec := { name := "toksReads", fn := fun _ => fun
  | [d1, d2] => { results := [.lit (.bool false)], args := [d1, d2] }
  | _ => none }
def ToksReadsWrongFalsely : Prop := toksReadsRow.holds Try.pinned (OpenSpec.ofChange toksReadsWrong)

/-- 'firkinlaw11.ToksBack': WHATEVER THE INPUT: true; the input reads as it did. -/
def toksBackSpec : ChangeSpec := { name := "toksBack", fn := fun _ => fun
  | [d] => { results := [.lit (.bool true)], args := [d] }
  | _ => none }
def toksBackRow : OpenClaim := { program := "ytaohdnhfodkeoaa", sum := "65b9734d33cd17d5b14e80e27089de1be2e76900d15e1c2826300bac425e6b85", func := "firkin/firkinlaw11.ToksBack", spec := "toksBack", unfollowed := true, recurses := true, apart := false }
def ToksBackSaid : Prop := toksBackRow.holds Try.pinned (OpenSpec.ofChange toksBackSpec)

/-- ITS FALSE NEIGHBOUR: 'it returns false'. Refute it at one input. -/
def toksBackWrong : ChangeSpec := { name := "toksBack", fn := fun _ => fun
  | [d] => { results := [.lit (.bool false)], args := [d] }
  | _ => none }
def ToksBackWrongFalsely : Prop := toksBackRow.holds Try.pinned (OpenSpec.ofChange toksBackWrong)

/-- 'firkinlaw11.ToksMay': WHATEVER THE INPUT: true; the input reads as it did. -/
def toksMaySpec : ChangeSpec := { name := "toksMay", fn := fun _ => fun
  | [d1, d2] => { results := [.lit (.bool true)], args := [d1, d2] }
  | _ => none }
def toksMayRow : OpenClaim := { program := "ytaohdnhfodkeoaa", sum := "65b9734d33cd17d5b14e80e27089de1be2e76900d15e1c2826300bac425e6b85", func := "firkin/firkinlaw11.ToksMay", spec := "toksMay", apart := false }
def ToksMaySaid : Prop := toksMayRow.holds Try.pinned (OpenSpec.ofChange toksMaySpec)

/-- ITS FALSE NEIGHBOUR: 'it returns false'. Refute it at one input. -/
def toksMayWrong : ChangeSpec := { name := "toksMay", fn := fun _ => fun
  | [d1, d2] => { results := [.lit (.bool false)], args := [d1, d2] }
  | _ => none }
def ToksMayWrongFalsely : Prop := toksMayRow.holds Try.pinned (OpenSpec.ofChange toksMayWrong)

/- THE SECOND FORM. 'bulk': how many values and letters a reading holds, each counted each time it is reached (what is shared counts as often as it is met; a slice's spare places count too). A statement '..UptoSaid' is the law's where the arguments, and the package variables that the reading takes, are together of bulk at most 1048576: NARROWER than '..Said'. Prove '..Said' where nothing that the law and all that it calls make is longer than what came in: it says more and counts as full. Else prove '..UptoSaid'. A law counts once. -/
mutual
def uptoBulk {H : Type} : DataW H → Nat
  | .lit (.string bytes) => bytes.length + 1
  | .lit _ => 1
  | .nil => 1
  | .ptr d => uptoBulk d + 1
  | .slice elems spare => uptoBulkAll elems + uptoBulkAll spare + 1
  | .agg parts => uptoBulkAll parts + 1
  | .iface _ d => uptoBulk d + 1
  | .map entries => uptoBulkEntries entries + 1
  | .held _ => 1
def uptoBulkAll {H : Type} : List (DataW H) → Nat
  | [] => 0
  | d :: r => uptoBulk d + uptoBulkAll r
def uptoBulkEntries {H : Type} : List (Lit × DataW H) → Nat
  | [] => 0
  | x :: r => uptoBulkEntry x + uptoBulkEntries r
def uptoBulkEntry {H : Type} : Lit × DataW H → Nat
  | (.string bytes, d) => bytes.length + uptoBulk d + 1
  | (_, d) => uptoBulk d + 1
 end
def uptoSmall : (H : Type) → List (DataW H) → Bool := fun _ ds => decide (uptoBulkAll ds ≤ 1048576)
def OpenSpec.upto (s : _root_.Go.ChangeSpec) : _root_.Go.OpenSpec := { _root_.Go.OpenSpec.ofChange s with cond := some uptoSmall }

/-- 'firkinlaw11.ToksSplits', WHERE WHAT IT READS IS OF BULK AT MOST 1048576: true; the input reads as it did. -/
def toksSplitsUptoRow : OpenClaim := { program := "ytaohdnhfodkeoaa", sum := "65b9734d33cd17d5b14e80e27089de1be2e76900d15e1c2826300bac425e6b85", func := "firkin/firkinlaw11.ToksSplits", spec := "toksSplits", apart := false, narrowed := true }
def ToksSplitsUptoSaid : Prop := toksSplitsUptoRow.holds Try.pinned (OpenSpec.upto toksSplitsSpec)

/-- 'firkinlaw11.ToksJoins', WHERE WHAT IT READS IS OF BULK AT MOST 1048576: true; the input reads as it did. -/
def toksJoinsUptoRow : OpenClaim := { program := "ytaohdnhfodkeoaa", sum := "65b9734d33cd17d5b14e80e27089de1be2e76900d15e1c2826300bac425e6b85", func := "firkin/firkinlaw11.ToksJoins", spec := "toksJoins", apart := false, narrowed := true }
def ToksJoinsUptoSaid : Prop := toksJoinsUptoRow.holds Try.pinned (OpenSpec.upto toksJoinsSpec)

/-- 'firkinlaw11.ToksCounts', WHERE WHAT IT READS IS OF BULK AT MOST 1048576: true; the input reads as it did. -/
def toksCountsUptoRow : OpenClaim := { program := "ytaohdnhfodkeoaa", sum := "65b9734d33cd17d5b14e80e27089de1be2e76900d15e1c2826300bac425e6b85", func := "firkin/firkinlaw11.ToksCounts", spec := "toksCounts", apart := false, narrowed := true }
def ToksCountsUptoSaid : Prop := toksCountsUptoRow.holds Try.pinned (OpenSpec.upto toksCountsSpec)

/-- 'firkinlaw11.ToksWrites', WHERE WHAT IT READS IS OF BULK AT MOST 1048576: true; the input reads as it did. -/
def toksWritesUptoRow : OpenClaim := { program := "ytaohdnhfodkeoaa", sum := "65b9734d33cd17d5b14e80e27089de1be2e76900d15e1c2826300bac425e6b85", func := "firkin/firkinlaw11.ToksWrites", spec := "toksWrites", unfollowed := true, recurses := true, apart := false, narrowed := true }
def ToksWritesUptoSaid : Prop := toksWritesUptoRow.holds Try.pinned (OpenSpec.upto toksWritesSpec)

/-- 'firkinlaw11.ToksReads', WHERE WHAT IT READS IS OF BULK AT MOST 1048576: true; the input reads as it did. -/
def toksReadsUptoRow : OpenClaim := { program := "ytaohdnhfodkeoaa", sum := "65b9734d33cd17d5b14e80e27089de1be2e76900d15e1c2826300bac425e6b85", func := "firkin/firkinlaw11.ToksReads", spec := "toksReads", apart := false, narrowed := true }
def ToksReadsUptoSaid : Prop := toksReadsUptoRow.holds Try.pinned (OpenSpec.upto toksReadsSpec)

/-- 'firkinlaw11.ToksBack', WHERE WHAT IT READS IS OF BULK AT MOST 1048576: true; the input reads as it did. -/
def toksBackUptoRow : OpenClaim := { program := "ytaohdnhfodkeoaa", sum := "65b9734d33cd17d5b14e80e27089de1be2e76900d15e1c2826300bac425e6b85", func := "firkin/firkinlaw11.ToksBack", spec := "toksBack", unfollowed := true, recurses := true, apart := false, narrowed := true }
def ToksBackUptoSaid : Prop := toksBackUptoRow.holds Try.pinned (OpenSpec.upto toksBackSpec)

/-- 'firkinlaw11.ToksMay', WHERE WHAT IT READS IS OF BULK AT MOST 1048576: true; the input reads as it did. -/
def toksMayUptoRow : OpenClaim := { program := "ytaohdnhfodkeoaa", sum := "65b9734d33cd17d5b14e80e27089de1be2e76900d15e1c2826300bac425e6b85", func := "firkin/firkinlaw11.ToksMay", spec := "toksMay", apart := false, narrowed := true }
def ToksMayUptoSaid : Prop := toksMayUptoRow.holds Try.pinned (OpenSpec.upto toksMaySpec)

end Rows
end Go.Proofs.Ytaohdnhfodkeoaa
