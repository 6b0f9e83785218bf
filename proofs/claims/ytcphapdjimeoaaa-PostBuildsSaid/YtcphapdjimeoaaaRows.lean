/-
  No cell of these rows narrows 'for every input' (looked for: loops, veiled, ifaces, maps, wideKeys, modest, calm, conditions, laid).
  DERIVED. THE GIVEN ROWS OF THIS SEAT. 5 by the template 'for every input the law returns true; each argument reads behind the call as it read before'; 0 by the template 'total and deterministic' (their statements: YtcphapdjimeoaaaTotals.lean).
  GIVEN WITH THE SEED: the statements are not yours to turn. If you find one false, say at which input.
  Laid BY PROGRAM, IN A SANDBOX (cutbox-rows.mjs): the forced cells as the released guide's own fill.sh prints them over the translation 0b95c8dbc0accdcf… (all of the seat's roots in one cut). By AI agents, Wed Nov 11 2026. No macro, syntax, notation, axiom, sorry.
-/
import Derived.Test.YtcphapdjimeoaaaChecked
import GoSem.Claim
import GoSem.ClaimJoined
import GoSem.ClaimMapViews
import Derived.JoinedTies
import Derived.KernelRfl
namespace Go.Proofs.Ytcphapdjimeoaaa
/- THE CELL 'sum', in the pinned program and in every row, IS THE sha256 OF THE DUMP (.gsa) THAT YtcphapdjimeoaaaProg.lean LOADS. Nothing in Lean hashes anything: it is a label: what it is worth is what the hold of that sum in a sandbox is worth. -/
noncomputable def Try.pinned : Pinned := { name := "ytcphapdjimeoaaa", sum := "0b95c8dbc0accdcfdbb3a6fd8c5bdc040fdcde40b638d51b1bfa5a8065cf4ef2", checked := Try.checked }
namespace Rows
def none {H : Type} : Left H := { results := [], args := [] }

/-- 'firkinlaw18.PostBuilds': WHATEVER THE INPUT: true; the input reads as it did. -/
def postBuildsSpec : ChangeSpec := { name := "postBuilds", fn := fun _ => fun
  | [d] => { results := [.lit (.bool true)], args := [d] }
  | _ => none }
def postBuildsRow : OpenClaim := { program := "ytcphapdjimeoaaa", sum := "0b95c8dbc0accdcfdbb3a6fd8c5bdc040fdcde40b638d51b1bfa5a8065cf4ef2", func := "firkin/firkinlaw18.PostBuilds", spec := "postBuilds", unfollowed := true, recurses := true, apart := false }
def PostBuildsSaid : Prop := postBuildsRow.holds Try.pinned (OpenSpec.ofChange postBuildsSpec)

/-- ITS FALSE NEIGHBOUR: 'it returns false'. Refute it at one input. -/
def postBuildsWrong : ChangeSpec := { name := "postBuilds", fn := fun _ => fun
  | [d] => { results := [.lit (.bool false)], args := [d] }
  | _ => none }
def PostBuildsWrongFalsely : Prop := postBuildsRow.holds Try.pinned (OpenSpec.ofChange postBuildsWrong)

/-- 'firkinlaw18.PostHas': WHATEVER THE INPUT: true; the input reads as it did. -/
def postHasSpec : ChangeSpec := { name := "postHas", fn := fun _ => fun
  | [d1, d2, d3] => { results := [.lit (.bool true)], args := [d1, d2, d3] }
  | _ => none }
def postHasRow : OpenClaim := { program := "ytcphapdjimeoaaa", sum := "0b95c8dbc0accdcfdbb3a6fd8c5bdc040fdcde40b638d51b1bfa5a8065cf4ef2", func := "firkin/firkinlaw18.PostHas", spec := "postHas", unfollowed := true, recurses := true, apart := false }
def PostHasSaid : Prop := postHasRow.holds Try.pinned (OpenSpec.ofChange postHasSpec)

/-- ITS FALSE NEIGHBOUR: 'it returns false'. Refute it at one input. -/
def postHasWrong : ChangeSpec := { name := "postHas", fn := fun _ => fun
  | [d1, d2, d3] => { results := [.lit (.bool false)], args := [d1, d2, d3] }
  | _ => none }
def PostHasWrongFalsely : Prop := postHasRow.holds Try.pinned (OpenSpec.ofChange postHasWrong)

/-- 'firkinlaw18.PostMay': WHATEVER THE INPUT: true; the input reads as it did. -/
def postMaySpec : ChangeSpec := { name := "postMay", fn := fun _ => fun
  | [d1, d2, d3] => { results := [.lit (.bool true)], args := [d1, d2, d3] }
  | _ => none }
def postMayRow : OpenClaim := { program := "ytcphapdjimeoaaa", sum := "0b95c8dbc0accdcfdbb3a6fd8c5bdc040fdcde40b638d51b1bfa5a8065cf4ef2", func := "firkin/firkinlaw18.PostMay", spec := "postMay", unfollowed := true, recurses := true, apart := false }
def PostMaySaid : Prop := postMayRow.holds Try.pinned (OpenSpec.ofChange postMaySpec)

/-- ITS FALSE NEIGHBOUR: 'it returns false'. Refute it at one input. -/
def postMayWrong : ChangeSpec := { name := "postMay", fn := fun _ => fun
  | [d1, d2, d3] => { results := [.lit (.bool false)], args := [d1, d2, d3] }
  | _ => none }
def PostMayWrongFalsely : Prop := postMayRow.holds Try.pinned (OpenSpec.ofChange postMayWrong)

/-- 'firkinlaw18.PostBytes': WHATEVER THE INPUT: true; the input reads as it did. -/
def postBytesSpec : ChangeSpec := { name := "postBytes", fn := fun _ => fun
  | [d1, d2, d3] => { results := [.lit (.bool true)], args := [d1, d2, d3] }
  | _ => none }
def postBytesRow : OpenClaim := { program := "ytcphapdjimeoaaa", sum := "0b95c8dbc0accdcfdbb3a6fd8c5bdc040fdcde40b638d51b1bfa5a8065cf4ef2", func := "firkin/firkinlaw18.PostBytes", spec := "postBytes", unfollowed := true, recurses := true, apart := false }
def PostBytesSaid : Prop := postBytesRow.holds Try.pinned (OpenSpec.ofChange postBytesSpec)

/-- ITS FALSE NEIGHBOUR: 'it returns false'. Refute it at one input. -/
def postBytesWrong : ChangeSpec := { name := "postBytes", fn := fun _ => fun
  | [d1, d2, d3] => { results := [.lit (.bool false)], args := [d1, d2, d3] }
  | _ => none }
def PostBytesWrongFalsely : Prop := postBytesRow.holds Try.pinned (OpenSpec.ofChange postBytesWrong)

/-- 'firkinlaw18.PostMore': WHATEVER THE INPUT: true; the input reads as it did. -/
def postMoreSpec : ChangeSpec := { name := "postMore", fn := fun _ => fun
  | [d1, d2] => { results := [.lit (.bool true)], args := [d1, d2] }
  | _ => none }
def postMoreRow : OpenClaim := { program := "ytcphapdjimeoaaa", sum := "0b95c8dbc0accdcfdbb3a6fd8c5bdc040fdcde40b638d51b1bfa5a8065cf4ef2", func := "firkin/firkinlaw18.PostMore", spec := "postMore", unfollowed := true, recurses := true, apart := false }
def PostMoreSaid : Prop := postMoreRow.holds Try.pinned (OpenSpec.ofChange postMoreSpec)

/-- ITS FALSE NEIGHBOUR: 'it returns false'. Refute it at one input. -/
def postMoreWrong : ChangeSpec := { name := "postMore", fn := fun _ => fun
  | [d1, d2] => { results := [.lit (.bool false)], args := [d1, d2] }
  | _ => none }
def PostMoreWrongFalsely : Prop := postMoreRow.holds Try.pinned (OpenSpec.ofChange postMoreWrong)

/- THE SECOND FORM. 'bulk': how many values and letters a reading holds, each counted each time it is reached (what is shared counts as often as it is met; a slice's spare places count too). A statement '..UptoSaid' is the law's where the arguments, and the package variables that the reading takes, are together of bulk at most 1048576: NARROWER than '..Said'. Prove '..Said' where nothing that the law and all that it calls make is longer than what came in: it says more and counts as full. Else prove '..UptoSaid'. A law counts once. -/
mutual
def uptoBulk {H : Type} : DataW H → Nat
  | .lit (.string bytes) => bytes.length + 1
  | .lit _ => 1
  | .nil => 1
  | .ptr d => uptoBulk d + 1
  | .slice elems spare => uptoBulkAll elems + uptoBulkAll spare + 1
  | .agg parts => uptoBulkAll parts + 1
  | .iface _ d => uptoBulk d + 1
  | .map entries => uptoBulkEntries entries + 1
  | .held _ => 1
def uptoBulkAll {H : Type} : List (DataW H) → Nat
  | [] => 0
  | d :: r => uptoBulk d + uptoBulkAll r
def uptoBulkEntries {H : Type} : List (Lit × DataW H) → Nat
  | [] => 0
  | x :: r => uptoBulkEntry x + uptoBulkEntries r
def uptoBulkEntry {H : Type} : Lit × DataW H → Nat
  | (.string bytes, d) => bytes.length + uptoBulk d + 1
  | (_, d) => uptoBulk d + 1
 end
def uptoSmall : (H : Type) → List (DataW H) → Bool := fun _ ds => decide (uptoBulkAll ds ≤ 1048576)
def OpenSpec.upto (s : _root_.Go.ChangeSpec) : _root_.Go.OpenSpec := { _root_.Go.OpenSpec.ofChange s with cond := some uptoSmall }

/-- 'firkinlaw18.PostBuilds', WHERE WHAT IT READS IS OF BULK AT MOST 1048576: true; the input reads as it did. -/
def postBuildsUptoRow : OpenClaim := { program := "ytcphapdjimeoaaa", sum := "0b95c8dbc0accdcfdbb3a6fd8c5bdc040fdcde40b638d51b1bfa5a8065cf4ef2", func := "firkin/firkinlaw18.PostBuilds", spec := "postBuilds", unfollowed := true, recurses := true, apart := false, narrowed := true }
def PostBuildsUptoSaid : Prop := postBuildsUptoRow.holds Try.pinned (OpenSpec.upto postBuildsSpec)

/-- 'firkinlaw18.PostHas', WHERE WHAT IT READS IS OF BULK AT MOST 1048576: true; the input reads as it did. -/
def postHasUptoRow : OpenClaim := { program := "ytcphapdjimeoaaa", sum := "0b95c8dbc0accdcfdbb3a6fd8c5bdc040fdcde40b638d51b1bfa5a8065cf4ef2", func := "firkin/firkinlaw18.PostHas", spec := "postHas", unfollowed := true, recurses := true, apart := false, narrowed := true }
def PostHasUptoSaid : Prop := postHasUptoRow.holds Try.pinned (OpenSpec.upto postHasSpec)

/-- 'firkinlaw18.PostMay', WHERE WHAT IT READS IS OF BULK AT MOST 1048576: true; the input reads as it did. -/
def postMayUptoRow : OpenClaim := { program := "ytcphapdjimeoaaa", sum := "0b95c8dbc0accdcfdbb3a6fd8c5bdc040fdcde40b638d51b1bfa5a8065cf4ef2", func := "firkin/firkinlaw18.PostMay", spec := "postMay", unfollowed := true, recurses := true, apart := false, narrowed := true }
def PostMayUptoSaid : Prop := postMayUptoRow.holds Try.pinned (OpenSpec.upto postMaySpec)

/-- 'firkinlaw18.PostBytes', WHERE WHAT IT READS IS OF BULK AT MOST 1048576: true; the input reads as it did. -/
def postBytesUptoRow : OpenClaim := { program := "ytcphapdjimeoaaa", sum := "0b95c8dbc0accdcfdbb3a6fd8c5bdc040fdcde40b638d51b1bfa5a8065cf4ef2", func := "firkin/firkinlaw18.PostBytes", spec := "postBytes", unfollowed := true, recurses := true, apart := false, narrowed := true }
def PostBytesUptoSaid : Prop := postBytesUptoRow.holds Try.pinned (OpenSpec.upto postBytesSpec)

/-- 'firkinlaw18.PostMore', WHERE WHAT IT READS IS OF BULK AT MOST 1048576: true; the input reads as it did. -/
def postMoreUptoRow : OpenClaim := { program := "ytcphapdjimeoaaa", sum := "0b95c8dbc0accdcfdbb3a6fd8c5bdc040fdcde40b638d51b1bfa5a8065cf4ef2", func := "firkin/firkinlaw18.PostMore", spec := "postMore", unfollowed := true, recurses := true, apart := false, narrowed := true }
def PostMoreUptoSaid : Prop := postMoreUptoRow.holds Try.pinned (OpenSpec.upto postMoreSpec)

end Rows
end Go.Proofs.Ytcphapdjimeoaaa
