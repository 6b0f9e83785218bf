/-
  No cell of these rows narrows 'for every input' (looked for: loops, veiled, ifaces, maps, wideKeys, modest, calm, conditions, laid).
  DERIVED. THE GIVEN ROWS OF THIS SEAT. 6 by the template 'for every input the law returns true; each argument reads behind the call as it read before'; 0 by the template 'total and deterministic' (their statements: YtklofjgfecpkiaaTotals.lean).
  GIVEN WITH THE SEED: the statements are not yours to turn. If you find one false, say at which input.
  Laid BY PROGRAM, IN A SANDBOX (cutbox-rows.mjs): the forced cells as the released guide's own fill.sh prints them over the translation 502c05d2c459904c… (all of the seat's roots in one cut). By AI agents, Wed Nov 11 2026. No macro, syntax, notation, axiom, sorry.
-/
import Derived.Test.YtklofjgfecpkiaaChecked
import GoSem.Claim
import GoSem.ClaimJoined
import GoSem.ClaimMapViews
import Derived.JoinedTies
import Derived.KernelRfl
namespace Go.Proofs.Ytklofjgfecpkiaa
/- THE CELL 'sum', in the pinned program and in every row, IS THE sha256 OF THE DUMP (.gsa) THAT YtklofjgfecpkiaaProg.lean LOADS. Nothing in Lean hashes anything: it is a label: what it is worth is what the hold of that sum in a sandbox is worth. -/
noncomputable def Try.pinned : Pinned := { name := "ytklofjgfecpkiaa", sum := "502c05d2c459904ce6e152cf608d1b962031bc062edbc821192bd1af638f3750", checked := Try.checked }
namespace Rows
def none {H : Type} : Left H := { results := [], args := [] }

/-- 'firkinlaw10.LzFinds': WHATEVER THE INPUT: true; the input reads as it did. -/
def lzFindsSpec : ChangeSpec := { name := "lzFinds", fn := fun _ => fun
  | [d] => { results := [.lit (.bool true)], args := [d] }
  | _ => none }
def lzFindsRow : OpenClaim := { program := "ytklofjgfecpkiaa", sum := "502c05d2c459904ce6e152cf608d1b962031bc062edbc821192bd1af638f3750", func := "firkin/firkinlaw10.LzFinds", spec := "lzFinds", plainKeys := false, apart := false }
def LzFindsSaid : Prop := lzFindsRow.holds Try.pinned (OpenSpec.ofChange lzFindsSpec)

/-- ITS FALSE NEIGHBOUR: 'it returns false'. Refute it at one input. -/
def lzFindsWrong : ChangeSpec := { name := "lzFinds", fn := fun _ => fun
  | [d] => { results := [.lit (.bool false)], args := [d] }
  | _ => none }
def LzFindsWrongFalsely : Prop := lzFindsRow.holds Try.pinned (OpenSpec.ofChange lzFindsWrong)

/-- 'firkinlaw10.LzBack': WHATEVER THE INPUT: true; the input reads as it did. -/
def lzBackSpec : ChangeSpec := { name := "lzBack", fn := fun _ => fun
  | [d1, d2] => { results := [.lit (.bool true)], args := [d1, d2] }
  | _ => none }
def lzBackRow : OpenClaim := { program := "ytklofjgfecpkiaa", sum := "502c05d2c459904ce6e152cf608d1b962031bc062edbc821192bd1af638f3750", func := "firkin/firkinlaw10.LzBack", spec := "lzBack", plainKeys := false, apart := false }
def LzBackSaid : Prop := lzBackRow.holds Try.pinned (OpenSpec.ofChange lzBackSpec)

/-- ITS FALSE NEIGHBOUR: 'it returns false'. Refute it at one input. -/
def lzBackWrong : ChangeSpec := { name := "lzBack", fn := fun _ => fun
  | [d1, d2] => { results := [.lit (.bool false)], args := [d1, d2] }
  | _ => none }
def LzBackWrongFalsely : Prop := lzBackRow.holds Try.pinned (OpenSpec.ofChange lzBackWrong)

/-- 'firkinlaw10.LzPlays': WHATEVER THE INPUT: true; the input reads as it did. -/
def lzPlaysSpec : ChangeSpec := { name := "lzPlays", fn := fun _ => fun
  | [d1, d2] => { results := [.lit (.bool true)], args := [d1, d2] }
  | _ => none }
def lzPlaysRow : OpenClaim := { program := "ytklofjgfecpkiaa", sum := "502c05d2c459904ce6e152cf608d1b962031bc062edbc821192bd1af638f3750", func := "firkin/firkinlaw10.LzPlays", spec := "lzPlays", plainKeys := false, apart := false }
def LzPlaysSaid : Prop := lzPlaysRow.holds Try.pinned (OpenSpec.ofChange lzPlaysSpec)

/-- ITS FALSE NEIGHBOUR: 'it returns false'. Refute it at one input. -/
def lzPlaysWrong : ChangeSpec := { name := "lzPlays", fn := fun _ => fun
  | [d1, d2] => { results := [.lit (.bool false)], args := [d1, d2] }
  | _ => none }
def LzPlaysWrongFalsely : Prop := lzPlaysRow.holds Try.pinned (OpenSpec.ofChange lzPlaysWrong)

/-- 'firkinlaw10.LzMay': WHATEVER THE INPUT: true; the input reads as it did. -/
def lzMaySpec : ChangeSpec := { name := "lzMay", fn := fun _ => fun
  | [d1, d2] => { results := [.lit (.bool true)], args := [d1, d2] }
  | _ => none }
def lzMayRow : OpenClaim := { program := "ytklofjgfecpkiaa", sum := "502c05d2c459904ce6e152cf608d1b962031bc062edbc821192bd1af638f3750", func := "firkin/firkinlaw10.LzMay", spec := "lzMay", plainKeys := false, apart := false }
def LzMaySaid : Prop := lzMayRow.holds Try.pinned (OpenSpec.ofChange lzMaySpec)

/-- ITS FALSE NEIGHBOUR: 'it returns false'. Refute it at one input. -/
def lzMayWrong : ChangeSpec := { name := "lzMay", fn := fun _ => fun
  | [d1, d2] => { results := [.lit (.bool false)], args := [d1, d2] }
  | _ => none }
def LzMayWrongFalsely : Prop := lzMayRow.holds Try.pinned (OpenSpec.ofChange lzMayWrong)

/-- 'firkinlaw10.LzLongest': WHATEVER THE INPUT: true; the input reads as it did. -/
def lzLongestSpec : ChangeSpec := { name := "lzLongest", fn := fun _ => fun
  | [d1, d2, d3] => { results := [.lit (.bool true)], args := [d1, d2, d3] }
  | _ => none }
def lzLongestRow : OpenClaim := { program := "ytklofjgfecpkiaa", sum := "502c05d2c459904ce6e152cf608d1b962031bc062edbc821192bd1af638f3750", func := "firkin/firkinlaw10.LzLongest", spec := "lzLongest", plainKeys := false, apart := false }
def LzLongestSaid : Prop := lzLongestRow.holds Try.pinned (OpenSpec.ofChange lzLongestSpec)

/-- ITS FALSE NEIGHBOUR: 'it returns false'. Refute it at one input. -/
def lzLongestWrong : ChangeSpec := { name := "lzLongest", fn := fun _ => fun
  | [d1, d2, d3] => { results := [.lit (.bool false)], args := [d1, d2, d3] }
  | _ => none }
def LzLongestWrongFalsely : Prop := lzLongestRow.holds Try.pinned (OpenSpec.ofChange lzLongestWrong)

/-- 'firkinlaw10.LzRuns': WHATEVER THE INPUT: true; the input reads as it did. -/
def lzRunsSpec : ChangeSpec := { name := "lzRuns", fn := fun _ => fun
  | [d1, d2] => { results := [.lit (.bool true)], args := [d1, d2] }
  | _ => none }
def lzRunsRow : OpenClaim := { program := "ytklofjgfecpkiaa", sum := "502c05d2c459904ce6e152cf608d1b962031bc062edbc821192bd1af638f3750", func := "firkin/firkinlaw10.LzRuns", spec := "lzRuns", plainKeys := false, apart := false }
def LzRunsSaid : Prop := lzRunsRow.holds Try.pinned (OpenSpec.ofChange lzRunsSpec)

/-- ITS FALSE NEIGHBOUR: 'it returns false'. Refute it at one input. -/
def lzRunsWrong : ChangeSpec := { name := "lzRuns", fn := fun _ => fun
  | [d1, d2] => { results := [.lit (.bool false)], args := [d1, d2] }
  | _ => none }
def LzRunsWrongFalsely : Prop := lzRunsRow.holds Try.pinned (OpenSpec.ofChange lzRunsWrong)

/- THE SECOND FORM. 'bulk': how many values and letters a reading holds, each counted each time it is reached (what is shared counts as often as it is met; a slice's spare places count too). A statement '..UptoSaid' is the law's where the arguments, and the package variables that the reading takes, are together of bulk at most 1048576: NARROWER than '..Said'. Prove '..Said' where nothing that the law and all that it calls make is longer than what came in: it says more and counts as full. Else prove '..UptoSaid'. A law counts once. -/
mutual
def uptoBulk {H : Type} : DataW H → Nat
  | .lit (.string bytes) => bytes.length + 1
  | .lit _ => 1
  | .nil => 1
  | .ptr d => uptoBulk d + 1
  | .slice elems spare => uptoBulkAll elems + uptoBulkAll spare + 1
  | .agg parts => uptoBulkAll parts + 1
  | .iface _ d => uptoBulk d + 1
  | .map entries => uptoBulkEntries entries + 1
  | .held _ => 1
def uptoBulkAll {H : Type} : List (DataW H) → Nat
  | [] => 0
  | d :: r => uptoBulk d + uptoBulkAll r
def uptoBulkEntries {H : Type} : List (Lit × DataW H) → Nat
  | [] => 0
  | x :: r => uptoBulkEntry x + uptoBulkEntries r
def uptoBulkEntry {H : Type} : Lit × DataW H → Nat
  | (.string bytes, d) => bytes.length + uptoBulk d + 1
  | (_, d) => uptoBulk d + 1
 end
def uptoSmall : (H : Type) → List (DataW H) → Bool := fun _ ds => decide (uptoBulkAll ds ≤ 1048576)
def OpenSpec.upto (s : _root_.Go.ChangeSpec) : _root_.Go.OpenSpec := { _root_.Go.OpenSpec.ofChange s with cond := some uptoSmall }

/-- 'firkinlaw10.LzFinds', WHERE WHAT IT READS IS OF BULK AT MOST 1048576: true; the input reads as it did. -/
def lzFindsUptoRow : OpenClaim := { program := "ytklofjgfecpkiaa", sum := "502c05d2c459904ce6e152cf608d1b962031bc062edbc821192bd1af638f3750", func := "firkin/firkinlaw10.LzFinds", spec := "lzFinds", plainKeys := false, apart := false, narrowed := true }
def LzFindsUptoSaid : Prop := lzFindsUptoRow.holds Try.pinned (OpenSpec.upto lzFindsSpec)

/-- 'firkinlaw10.LzBack', WHERE WHAT IT READS IS OF BULK AT MOST 1048576: true; the input reads as it did. -/
def lzBackUptoRow : OpenClaim := { program := "ytklofjgfecpkiaa", sum := "502c05d2c459904ce6e152cf608d1b962031bc062edbc821192bd1af638f3750", func := "firkin/firkinlaw10.LzBack", spec := "lzBack", plainKeys := false, apart := false, narrowed := true }
def LzBackUptoSaid : Prop := lzBackUptoRow.holds Try.pinned (OpenSpec.upto lzBackSpec)

/-- 'firkinlaw10.LzPlays', WHERE WHAT IT READS IS OF BULK AT MOST 1048576: true; the input reads as it did. -/
def lzPlaysUptoRow : OpenClaim := { program := "ytklofjgfecpkiaa", sum := "502c05d2c459904ce6e152cf608d1b962031bc062edbc821192bd1af638f3750", func := "firkin/firkinlaw10.LzPlays", spec := "lzPlays", plainKeys := false, apart := false, narrowed := true }
def LzPlaysUptoSaid : Prop := lzPlaysUptoRow.holds Try.pinned (OpenSpec.upto lzPlaysSpec)

/-- 'firkinlaw10.LzMay', WHERE WHAT IT READS IS OF BULK AT MOST 1048576: true; the input reads as it did. -/
def lzMayUptoRow : OpenClaim := { program := "ytklofjgfecpkiaa", sum := "502c05d2c459904ce6e152cf608d1b962031bc062edbc821192bd1af638f3750", func := "firkin/firkinlaw10.LzMay", spec := "lzMay", plainKeys := false, apart := false, narrowed := true }
def LzMayUptoSaid : Prop := lzMayUptoRow.holds Try.pinned (OpenSpec.upto lzMaySpec)

/-- 'firkinlaw10.LzLongest', WHERE WHAT IT READS IS OF BULK AT MOST 1048576: true; the input reads as it did. -/
def lzLongestUptoRow : OpenClaim := { program := "ytklofjgfecpkiaa", sum := "502c05d2c459904ce6e152cf608d1b962031bc062edbc821192bd1af638f3750", func := "firkin/firkinlaw10.LzLongest", spec := "lzLongest", plainKeys := false, apart := false, narrowed := true }
def LzLongestUptoSaid : Prop := lzLongestUptoRow.holds Try.pinned (OpenSpec.upto lzLongestSpec)

/-- 'firkinlaw10.LzRuns', WHERE WHAT IT READS IS OF BULK AT MOST 1048576: true; the input reads as it did. -/
def lzRunsUptoRow : OpenClaim := { program := "ytklofjgfecpkiaa", sum := "502c05d2c459904ce6e152cf608d1b962031bc062edbc821192bd1af638f3750", func := "firkin/firkinlaw10.LzRuns", spec := "lzRuns", plainKeys := false, apart := false, narrowed := true }
def LzRunsUptoSaid : Prop := lzRunsUptoRow.holds Try.pinned (OpenSpec.upto lzRunsSpec)

end Rows
end Go.Proofs.Ytklofjgfecpkiaa
