/-
  No cell of these rows narrows 'for every input' (looked for: loops, veiled, ifaces, maps, wideKeys, modest, calm, conditions, laid).
  DERIVED. THE GIVEN ROWS OF THIS SEAT. 7 by the template 'for every input the law returns true; each argument reads behind the call as it read before'; 0 by the template 'total and deterministic' (their statements: YtfkmcknkapplmaaTotals.lean).
  GIVEN WITH THE SEED: the statements are not yours to turn. If you find one false, say at which input.
  Laid BY PROGRAM, IN A SANDBOX (cutbox-rows.mjs): the forced cells as the released guide's own fill.sh prints them over the translation b8ad114c013cef1e… (all of the seat's roots in one cut). By AI agents, Wed Nov 11 2026. No macro, syntax, notation, axiom, sorry.
-/
import Derived.Test.YtfkmcknkapplmaaChecked
import GoSem.Claim
import GoSem.ClaimJoined
import GoSem.ClaimMapViews
import Derived.JoinedTies
import Derived.KernelRfl
namespace Go.Proofs.Ytfkmcknkapplmaa
/- THE CELL 'sum', in the pinned program and in every row, IS THE sha256 OF THE DUMP (.gsa) THAT YtfkmcknkapplmaaProg.lean LOADS. Nothing in Lean hashes anything: it is a label: what it is worth is what the hold of that sum in a sandbox is worth. -/
noncomputable def Try.pinned : Pinned := { name := "ytfkmcknkapplmaa", sum := "b8ad114c013cef1ec4a37a44f7dc69c5e3780087a7ca05167796f278a76d8fa1", checked := Try.checked }
namespace Rows
def none {H : Type} : Left H := { results := [], args := [] }

/-- 'firkinlaw14.SetsMay': WHATEVER THE INPUT: true; the input reads as it did. -/
def setsMaySpec : ChangeSpec := { name := "setsMay", fn := fun _ => fun
  | [d1, d2] => { results := [.lit (.bool true)], args := [d1, d2] }
  | _ => none }
def setsMayRow : OpenClaim := { program := "ytfkmcknkapplmaa", sum := "b8ad114c013cef1ec4a37a44f7dc69c5e3780087a7ca05167796f278a76d8fa1", func := "firkin/firkinlaw14.SetsMay", spec := "setsMay", unfollowed := true, recurses := true, apart := false }
def SetsMaySaid : Prop := setsMayRow.holds Try.pinned (OpenSpec.ofChange setsMaySpec)

/-- ITS FALSE NEIGHBOUR: 'it returns false'. Refute it at one input. -/
def setsMayWrong : ChangeSpec := { name := "setsMay", fn := fun _ => fun
  | [d1, d2] => { results := [.lit (.bool false)], args := [d1, d2] }
  | _ => none }
def SetsMayWrongFalsely : Prop := setsMayRow.holds Try.pinned (OpenSpec.ofChange setsMayWrong)

/-- 'firkinlaw14.SetsBoth': WHATEVER THE INPUT: true; the input reads as it did. -/
def setsBothSpec : ChangeSpec := { name := "setsBoth", fn := fun _ => fun
  | [d] => { results := [.lit (.bool true)], args := [d] }
  | _ => none }
def setsBothRow : OpenClaim := { program := "ytfkmcknkapplmaa", sum := "b8ad114c013cef1ec4a37a44f7dc69c5e3780087a7ca05167796f278a76d8fa1", func := "firkin/firkinlaw14.SetsBoth", spec := "setsBoth", unfollowed := true, recurses := true, apart := false }
def SetsBothSaid : Prop := setsBothRow.holds Try.pinned (OpenSpec.ofChange setsBothSpec)

/-- ITS FALSE NEIGHBOUR: 'it returns false'. Refute it at one input. -/
def setsBothWrong : ChangeSpec := { name := "setsBoth", fn := fun _ => fun
  | [d] => { results := [.lit (.bool false)], args := [d] }
  | _ => none }
def SetsBothWrongFalsely : Prop := setsBothRow.holds Try.pinned (OpenSpec.ofChange setsBothWrong)

/-- 'firkinlaw14.SetsAny': WHATEVER THE INPUT: true; the input reads as it did. -/
def setsAnySpec : ChangeSpec := { name := "setsAny", fn := fun _ => fun
  | [d] => { results := [.lit (.bool true)], args := [d] }
  | _ => none }
def setsAnyRow : OpenClaim := { program := "ytfkmcknkapplmaa", sum := "b8ad114c013cef1ec4a37a44f7dc69c5e3780087a7ca05167796f278a76d8fa1", func := "firkin/firkinlaw14.SetsAny", spec := "setsAny", unfollowed := true, recurses := true, apart := false }
def SetsAnySaid : Prop := setsAnyRow.holds Try.pinned (OpenSpec.ofChange setsAnySpec)

/-- ITS FALSE NEIGHBOUR: 'it returns false'. Refute it at one input. -/
def setsAnyWrong : ChangeSpec := { name := "setsAny", fn := fun _ => fun
  | [d] => { results := [.lit (.bool false)], args := [d] }
  | _ => none }
def SetsAnyWrongFalsely : Prop := setsAnyRow.holds Try.pinned (OpenSpec.ofChange setsAnyWrong)

/-- 'firkinlaw14.SetsLess': WHATEVER THE INPUT: true; the input reads as it did. -/
def setsLessSpec : ChangeSpec := { name := "setsLess", fn := fun _ => fun
  | [d1, d2] => { results := [.lit (.bool true)], args := [d1, d2] }
  | _ => none }
def setsLessRow : OpenClaim := { program := "ytfkmcknkapplmaa", sum := "b8ad114c013cef1ec4a37a44f7dc69c5e3780087a7ca05167796f278a76d8fa1", func := "firkin/firkinlaw14.SetsLess", spec := "setsLess", unfollowed := true, recurses := true, apart := false }
def SetsLessSaid : Prop := setsLessRow.holds Try.pinned (OpenSpec.ofChange setsLessSpec)

/-- ITS FALSE NEIGHBOUR: 'it returns false'. Refute it at one input. -/
def setsLessWrong : ChangeSpec := { name := "setsLess", fn := fun _ => fun
  | [d1, d2] => { results := [.lit (.bool false)], args := [d1, d2] }
  | _ => none }
def SetsLessWrongFalsely : Prop := setsLessRow.holds Try.pinned (OpenSpec.ofChange setsLessWrong)

/-- 'firkinlaw14.SetsRest': WHATEVER THE INPUT: true; the input reads as it did. -/
def setsRestSpec : ChangeSpec := { name := "setsRest", fn := fun _ => fun
  | [d1, d2] => { results := [.lit (.bool true)], args := [d1, d2] }
  | _ => none }
def setsRestRow : OpenClaim := { program := "ytfkmcknkapplmaa", sum := "b8ad114c013cef1ec4a37a44f7dc69c5e3780087a7ca05167796f278a76d8fa1", func := "firkin/firkinlaw14.SetsRest", spec := "setsRest", unfollowed := true, recurses := true, apart := false }
def SetsRestSaid : Prop := setsRestRow.holds Try.pinned (OpenSpec.ofChange setsRestSpec)

/-- ITS FALSE NEIGHBOUR: 'it returns false'. Refute it at one input. -/
def setsRestWrong : ChangeSpec := { name := "setsRest", fn := fun _ => fun
  | [d1, d2] => { results := [.lit (.bool false)], args := [d1, d2] }
  | _ => none }
def SetsRestWrongFalsely : Prop := setsRestRow.holds Try.pinned (OpenSpec.ofChange setsRestWrong)

/-- 'firkinlaw14.SetsHas': WHATEVER THE INPUT: true; the input reads as it did. -/
def setsHasSpec : ChangeSpec := { name := "setsHas", fn := fun _ => fun
  | [d1, d2, d3] => { results := [.lit (.bool true)], args := [d1, d2, d3] }
  | _ => none }
def setsHasRow : OpenClaim := { program := "ytfkmcknkapplmaa", sum := "b8ad114c013cef1ec4a37a44f7dc69c5e3780087a7ca05167796f278a76d8fa1", func := "firkin/firkinlaw14.SetsHas", spec := "setsHas", unfollowed := true, recurses := true, apart := false }
def SetsHasSaid : Prop := setsHasRow.holds Try.pinned (OpenSpec.ofChange setsHasSpec)

/-- ITS FALSE NEIGHBOUR: 'it returns false'. Refute it at one input. -/
def setsHasWrong : ChangeSpec := { name := "setsHas", fn := fun _ => fun
  | [d1, d2, d3] => { results := [.lit (.bool false)], args := [d1, d2, d3] }
  | _ => none }
def SetsHasWrongFalsely : Prop := setsHasRow.holds Try.pinned (OpenSpec.ofChange setsHasWrong)

/-- 'firkinlaw14.SetsTurns': WHATEVER THE INPUT: true; the input reads as it did. -/
def setsTurnsSpec : ChangeSpec := { name := "setsTurns", fn := fun _ => fun
  | [d1, d2, d3] => { results := [.lit (.bool true)], args := [d1, d2, d3] }
  | _ => none }
def setsTurnsRow : OpenClaim := { program := "ytfkmcknkapplmaa", sum := "b8ad114c013cef1ec4a37a44f7dc69c5e3780087a7ca05167796f278a76d8fa1", func := "firkin/firkinlaw14.SetsTurns", spec := "setsTurns", unfollowed := true, recurses := true, apart := false }
def SetsTurnsSaid : Prop := setsTurnsRow.holds Try.pinned (OpenSpec.ofChange setsTurnsSpec)

/-- ITS FALSE NEIGHBOUR: 'it returns false'. Refute it at one input. -/
def setsTurnsWrong : ChangeSpec := { name := "setsTurns", fn := fun _ => fun
  | [d1, d2, d3] => { results := [.lit (.bool false)], args := [d1, d2, d3] }
  | _ => none }
def SetsTurnsWrongFalsely : Prop := setsTurnsRow.holds Try.pinned (OpenSpec.ofChange setsTurnsWrong)

/- THE SECOND FORM. 'bulk': how many values and letters a reading holds, each counted each time it is reached (what is shared counts as often as it is met; a slice's spare places count too). A statement '..UptoSaid' is the law's where the arguments, and the package variables that the reading takes, are together of bulk at most 1048576: NARROWER than '..Said'. Prove '..Said' where nothing that the law and all that it calls make is longer than what came in: it says more and counts as full. Else prove '..UptoSaid'. A law counts once. -/
mutual
def uptoBulk {H : Type} : DataW H → Nat
  | .lit (.string bytes) => bytes.length + 1
  | .lit _ => 1
  | .nil => 1
  | .ptr d => uptoBulk d + 1
  | .slice elems spare => uptoBulkAll elems + uptoBulkAll spare + 1
  | .agg parts => uptoBulkAll parts + 1
  | .iface _ d => uptoBulk d + 1
  | .map entries => uptoBulkEntries entries + 1
  | .held _ => 1
def uptoBulkAll {H : Type} : List (DataW H) → Nat
  | [] => 0
  | d :: r => uptoBulk d + uptoBulkAll r
def uptoBulkEntries {H : Type} : List (Lit × DataW H) → Nat
  | [] => 0
  | x :: r => uptoBulkEntry x + uptoBulkEntries r
def uptoBulkEntry {H : Type} : Lit × DataW H → Nat
  | (.string bytes, d) => bytes.length + uptoBulk d + 1
  | (_, d) => uptoBulk d + 1
 end
def uptoSmall : (H : Type) → List (DataW H) → Bool := fun _ ds => decide (uptoBulkAll ds ≤ 1048576)
def OpenSpec.upto (s : _root_.Go.ChangeSpec) : _root_.Go.OpenSpec := { _root_.Go.OpenSpec.ofChange s with cond := some uptoSmall }

/-- 'firkinlaw14.SetsMay', WHERE WHAT IT READS IS OF BULK AT MOST 1048576: true; the input reads as it did. -/
def setsMayUptoRow : OpenClaim := { program := "ytfkmcknkapplmaa", sum := "b8ad114c013cef1ec4a37a44f7dc69c5e3780087a7ca05167796f278a76d8fa1", func := "firkin/firkinlaw14.SetsMay", spec := "setsMay", unfollowed := true, recurses := true, apart := false, narrowed := true }
def SetsMayUptoSaid : Prop := setsMayUptoRow.holds Try.pinned (OpenSpec.upto setsMaySpec)

/-- 'firkinlaw14.SetsBoth', WHERE WHAT IT READS IS OF BULK AT MOST 1048576: true; the input reads as it did. -/
def setsBothUptoRow : OpenClaim := { program := "ytfkmcknkapplmaa", sum := "b8ad114c013cef1ec4a37a44f7dc69c5e3780087a7ca05167796f278a76d8fa1", func := "firkin/firkinlaw14.SetsBoth", spec := "setsBoth", unfollowed := true, recurses := true, apart := false, narrowed := true }
def SetsBothUptoSaid : Prop := setsBothUptoRow.holds Try.pinned (OpenSpec.upto setsBothSpec)

/-- 'firkinlaw14.SetsAny', WHERE WHAT IT READS IS OF BULK AT MOST 1048576: true; the input reads as it did. -/
def setsAnyUptoRow : OpenClaim := { program := "ytfkmcknkapplmaa", sum := "b8ad114c013cef1ec4a37a44f7dc69c5e3780087a7ca05167796f278a76d8fa1", func := "firkin/firkinlaw14.SetsAny", spec := "setsAny", unfollowed := true, recurses := true, apart := false, narrowed := true }
def SetsAnyUptoSaid : Prop := setsAnyUptoRow.holds Try.pinned (OpenSpec.upto setsAnySpec)

/-- 'firkinlaw14.SetsLess', WHERE WHAT IT READS IS OF BULK AT MOST 1048576: true; the input reads as it did. -/
def setsLessUptoRow : OpenClaim := { program := "ytfkmcknkapplmaa", sum := "b8ad114c013cef1ec4a37a44f7dc69c5e3780087a7ca05167796f278a76d8fa1", func := "firkin/firkinlaw14.SetsLess", spec := "setsLess", unfollowed := true, recurses := true, apart := false, narrowed := true }
def SetsLessUptoSaid : Prop := setsLessUptoRow.holds Try.pinned (OpenSpec.upto setsLessSpec)

/-- 'firkinlaw14.SetsRest', WHERE WHAT IT READS IS OF BULK AT MOST 1048576: true; the input reads as it did. -/
def setsRestUptoRow : OpenClaim := { program := "ytfkmcknkapplmaa", sum := "b8ad114c013cef1ec4a37a44f7dc69c5e3780087a7ca05167796f278a76d8fa1", func := "firkin/firkinlaw14.SetsRest", spec := "setsRest", unfollowed := true, recurses := true, apart := false, narrowed := true }
def SetsRestUptoSaid : Prop := setsRestUptoRow.holds Try.pinned (OpenSpec.upto setsRestSpec)

/-- 'firkinlaw14.SetsHas', WHERE WHAT IT READS IS OF BULK AT MOST 1048576: true; the input reads as it did. -/
def setsHasUptoRow : OpenClaim := { program := "ytfkmcknkapplmaa", sum := "b8ad114c013cef1ec4a37a44f7dc69c5e3780087a7ca05167796f278a76d8fa1", func := "firkin/firkinlaw14.SetsHas", spec := "setsHas", unfollowed := true, recurses := true, apart := false, narrowed := true }
def SetsHasUptoSaid : Prop := setsHasUptoRow.holds Try.pinned (OpenSpec.upto setsHasSpec)

/-- 'firkinlaw14.SetsTurns', WHERE WHAT IT READS IS OF BULK AT MOST 1048576: true; the input reads as it did. -/
def setsTurnsUptoRow : OpenClaim := { program := "ytfkmcknkapplmaa", sum := "b8ad114c013cef1ec4a37a44f7dc69c5e3780087a7ca05167796f278a76d8fa1", func := "firkin/firkinlaw14.SetsTurns", spec := "setsTurns", unfollowed := true, recurses := true, apart := false, narrowed := true }
def SetsTurnsUptoSaid : Prop := setsTurnsUptoRow.holds Try.pinned (OpenSpec.upto setsTurnsSpec)

end Rows
end Go.Proofs.Ytfkmcknkapplmaa
