/-
  No cell of these rows narrows 'for every input' (looked for: loops, veiled, ifaces, maps, wideKeys, modest, calm, conditions, laid).
  DERIVED. THE GIVEN ROWS OF THIS SEAT. 6 by the template 'for every input the law returns true; each argument reads behind the call as it read before'; 0 by the template 'total and deterministic' (their statements: YtmaddohfkfnnhaaTotals.lean).
  GIVEN WITH THE SEED: the statements are not yours to turn. If you find one false, say at which input.
  Laid BY PROGRAM, IN A SANDBOX (cutbox-rows.mjs): the forced cells as the released guide's own fill.sh prints them over the translation af2340d45b897284… (all of the seat's roots in one cut). By AI agents, Wed Nov 11 2026. No macro, syntax, notation, axiom, sorry.
-/
import Derived.Test.YtmaddohfkfnnhaaChecked
import GoSem.Claim
import GoSem.ClaimJoined
import GoSem.ClaimMapViews
import Derived.JoinedTies
import Derived.KernelRfl
namespace Go.Proofs.Ytmaddohfkfnnhaa
/- THE CELL 'sum', in the pinned program and in every row, IS THE sha256 OF THE DUMP (.gsa) THAT YtmaddohfkfnnhaaProg.lean LOADS. Nothing in Lean hashes anything: it is a label: what it is worth is what the hold of that sum in a sandbox is worth. -/
noncomputable def Try.pinned : Pinned := { name := "ytmaddohfkfnnhaa", sum := "af2340d45b8972845df71c5cf1781a48f7d5370be342c02ee93fe3095ed5536e", checked := Try.checked }
namespace Rows
def none {H : Type} : Left H := { results := [], args := [] }

/-- 'firkinlaw16.DictWrites': WHATEVER THE INPUT: true; the input reads as it did. -/
def dictWritesSpec : ChangeSpec := { name := "dictWrites", fn := fun _ => fun
  | [d1, d2] => { results := [.lit (.bool true)], args := [d1, d2] }
  | _ => none }
def dictWritesRow : OpenClaim := { program := "ytmaddohfkfnnhaa", sum := "af2340d45b8972845df71c5cf1781a48f7d5370be342c02ee93fe3095ed5536e", func := "firkin/firkinlaw16.DictWrites", spec := "dictWrites", unfollowed := true, recurses := true, apart := false }
def DictWritesSaid : Prop := dictWritesRow.holds Try.pinned (OpenSpec.ofChange dictWritesSpec)

/-- ITS FALSE NEIGHBOUR: 'it returns false'. Refute it at one input. -/
def dictWritesWrong : ChangeSpec := { name := "dictWrites", fn := fun _ => fun
  | [d1, d2] => { results := [.lit (.bool false)], args := [d1, d2] }
  | _ => none }
def DictWritesWrongFalsely : Prop := dictWritesRow.holds Try.pinned (OpenSpec.ofChange dictWritesWrong)

/-- 'firkinlaw16.DictBack': WHATEVER THE INPUT: true; the input reads as it did. -/
def dictBackSpec : ChangeSpec := { name := "dictBack", fn := fun _ => fun
  | [d1, d2, d3] => { results := [.lit (.bool true)], args := [d1, d2, d3] }
  | _ => none }
def dictBackRow : OpenClaim := { program := "ytmaddohfkfnnhaa", sum := "af2340d45b8972845df71c5cf1781a48f7d5370be342c02ee93fe3095ed5536e", func := "firkin/firkinlaw16.DictBack", spec := "dictBack", unfollowed := true, recurses := true, apart := false }
def DictBackSaid : Prop := dictBackRow.holds Try.pinned (OpenSpec.ofChange dictBackSpec)

/-- ITS FALSE NEIGHBOUR: 'it returns false'. Refute it at one input. -/
def dictBackWrong : ChangeSpec := { name := "dictBack", fn := fun _ => fun
  | [d1, d2, d3] => { results := [.lit (.bool false)], args := [d1, d2, d3] }
  | _ => none }
def DictBackWrongFalsely : Prop := dictBackRow.holds Try.pinned (OpenSpec.ofChange dictBackWrong)

/-- 'firkinlaw16.DictOne': WHATEVER THE INPUT: true; the input reads as it did. -/
def dictOneSpec : ChangeSpec := { name := "dictOne", fn := fun _ => fun
  | [d1, d2] => { results := [.lit (.bool true)], args := [d1, d2] }
  | _ => none }
def dictOneRow : OpenClaim := { program := "ytmaddohfkfnnhaa", sum := "af2340d45b8972845df71c5cf1781a48f7d5370be342c02ee93fe3095ed5536e", func := "firkin/firkinlaw16.DictOne", spec := "dictOne", unfollowed := true, recurses := true, apart := false }
def DictOneSaid : Prop := dictOneRow.holds Try.pinned (OpenSpec.ofChange dictOneSpec)

/-- ITS FALSE NEIGHBOUR: 'it returns false'. Refute it at one input. -/
def dictOneWrong : ChangeSpec := { name := "dictOne", fn := fun _ => fun
  | [d1, d2] => { results := [.lit (.bool false)], args := [d1, d2] }
  | _ => none }
def DictOneWrongFalsely : Prop := dictOneRow.holds Try.pinned (OpenSpec.ofChange dictOneWrong)

/-- 'firkinlaw16.DictFinds': WHATEVER THE INPUT: true; the input reads as it did. -/
def dictFindsSpec : ChangeSpec := { name := "dictFinds", fn := fun _ => fun
  | [d1, d2, d3, d4] => { results := [.lit (.bool true)], args := [d1, d2, d3, d4] }
  | _ => none }
def dictFindsRow : OpenClaim := { program := "ytmaddohfkfnnhaa", sum := "af2340d45b8972845df71c5cf1781a48f7d5370be342c02ee93fe3095ed5536e", func := "firkin/firkinlaw16.DictFinds", spec := "dictFinds", unfollowed := true, recurses := true, apart := false }
def DictFindsSaid : Prop := dictFindsRow.holds Try.pinned (OpenSpec.ofChange dictFindsSpec)

/-- ITS FALSE NEIGHBOUR: 'it returns false'. Refute it at one input. -/
def dictFindsWrong : ChangeSpec := { name := "dictFinds", fn := fun _ => fun
  | [d1, d2, d3, d4] => { results := [.lit (.bool false)], args := [d1, d2, d3, d4] }
  | _ => none }
def DictFindsWrongFalsely : Prop := dictFindsRow.holds Try.pinned (OpenSpec.ofChange dictFindsWrong)

/-- 'firkinlaw16.DictRange': WHATEVER THE INPUT: true; the input reads as it did. -/
def dictRangeSpec : ChangeSpec := { name := "dictRange", fn := fun _ => fun
  | [d1, d2, d3, d4] => { results := [.lit (.bool true)], args := [d1, d2, d3, d4] }
  | _ => none }
def dictRangeRow : OpenClaim := { program := "ytmaddohfkfnnhaa", sum := "af2340d45b8972845df71c5cf1781a48f7d5370be342c02ee93fe3095ed5536e", func := "firkin/firkinlaw16.DictRange", spec := "dictRange", unfollowed := true, recurses := true, apart := false }
def DictRangeSaid : Prop := dictRangeRow.holds Try.pinned (OpenSpec.ofChange dictRangeSpec)

/-- ITS FALSE NEIGHBOUR: 'it returns false'. Refute it at one input. -/
def dictRangeWrong : ChangeSpec := { name := "dictRange", fn := fun _ => fun
  | [d1, d2, d3, d4] => { results := [.lit (.bool false)], args := [d1, d2, d3, d4] }
  | _ => none }
def DictRangeWrongFalsely : Prop := dictRangeRow.holds Try.pinned (OpenSpec.ofChange dictRangeWrong)

/-- 'firkinlaw16.DictNone': WHATEVER THE INPUT: true; the input reads as it did. -/
def dictNoneSpec : ChangeSpec := { name := "dictNone", fn := fun _ => fun
  | [d1, d2] => { results := [.lit (.bool true)], args := [d1, d2] }
  | _ => none }
def dictNoneRow : OpenClaim := { program := "ytmaddohfkfnnhaa", sum := "af2340d45b8972845df71c5cf1781a48f7d5370be342c02ee93fe3095ed5536e", func := "firkin/firkinlaw16.DictNone", spec := "dictNone", unfollowed := true, recurses := true, apart := false }
def DictNoneSaid : Prop := dictNoneRow.holds Try.pinned (OpenSpec.ofChange dictNoneSpec)

/-- ITS FALSE NEIGHBOUR: 'it returns false'. Refute it at one input. -/
def dictNoneWrong : ChangeSpec := { name := "dictNone", fn := fun _ => fun
  | [d1, d2] => { results := [.lit (.bool false)], args := [d1, d2] }
  | _ => none }
def DictNoneWrongFalsely : Prop := dictNoneRow.holds Try.pinned (OpenSpec.ofChange dictNoneWrong)

/- THE SECOND FORM. 'bulk': how many values and letters a reading holds, each counted each time it is reached (what is shared counts as often as it is met; a slice's spare places count too). A statement '..UptoSaid' is the law's where the arguments, and the package variables that the reading takes, are together of bulk at most 1048576: NARROWER than '..Said'. Prove '..Said' where nothing that the law and all that it calls make is longer than what came in: it says more and counts as full. Else prove '..UptoSaid'. A law counts once. -/
mutual
def uptoBulk {H : Type} : DataW H → Nat
  | .lit (.string bytes) => bytes.length + 1
  | .lit _ => 1
  | .nil => 1
  | .ptr d => uptoBulk d + 1
  | .slice elems spare => uptoBulkAll elems + uptoBulkAll spare + 1
  | .agg parts => uptoBulkAll parts + 1
  | .iface _ d => uptoBulk d + 1
  | .map entries => uptoBulkEntries entries + 1
  | .held _ => 1
def uptoBulkAll {H : Type} : List (DataW H) → Nat
  | [] => 0
  | d :: r => uptoBulk d + uptoBulkAll r
def uptoBulkEntries {H : Type} : List (Lit × DataW H) → Nat
  | [] => 0
  | x :: r => uptoBulkEntry x + uptoBulkEntries r
def uptoBulkEntry {H : Type} : Lit × DataW H → Nat
  | (.string bytes, d) => bytes.length + uptoBulk d + 1
  | (_, d) => uptoBulk d + 1
 end
def uptoSmall : (H : Type) → List (DataW H) → Bool := fun _ ds => decide (uptoBulkAll ds ≤ 1048576)
def OpenSpec.upto (s : _root_.Go.ChangeSpec) : _root_.Go.OpenSpec := { _root_.Go.OpenSpec.ofChange s with cond := some uptoSmall }

/-- 'firkinlaw16.DictWrites', WHERE WHAT IT READS IS OF BULK AT MOST 1048576: true; the input reads as it did. -/
def dictWritesUptoRow : OpenClaim := { program := "ytmaddohfkfnnhaa", sum := "af2340d45b8972845df71c5cf1781a48f7d5370be342c02ee93fe3095ed5536e", func := "firkin/firkinlaw16.DictWrites", spec := "dictWrites", unfollowed := true, recurses := true, apart := false, narrowed := true }
def DictWritesUptoSaid : Prop := dictWritesUptoRow.holds Try.pinned (OpenSpec.upto dictWritesSpec)

/-- 'firkinlaw16.DictBack', WHERE WHAT IT READS IS OF BULK AT MOST 1048576: true; the input reads as it did. -/
def dictBackUptoRow : OpenClaim := { program := "ytmaddohfkfnnhaa", sum := "af2340d45b8972845df71c5cf1781a48f7d5370be342c02ee93fe3095ed5536e", func := "firkin/firkinlaw16.DictBack", spec := "dictBack", unfollowed := true, recurses := true, apart := false, narrowed := true }
def DictBackUptoSaid : Prop := dictBackUptoRow.holds Try.pinned (OpenSpec.upto dictBackSpec)

/-- 'firkinlaw16.DictOne', WHERE WHAT IT READS IS OF BULK AT MOST 1048576: true; the input reads as it did. -/
def dictOneUptoRow : OpenClaim := { program := "ytmaddohfkfnnhaa", sum := "af2340d45b8972845df71c5cf1781a48f7d5370be342c02ee93fe3095ed5536e", func := "firkin/firkinlaw16.DictOne", spec := "dictOne", unfollowed := true, recurses := true, apart := false, narrowed := true }
def DictOneUptoSaid : Prop := dictOneUptoRow.holds Try.pinned (OpenSpec.upto dictOneSpec)

/-- 'firkinlaw16.DictFinds', WHERE WHAT IT READS IS OF BULK AT MOST 1048576: true; the input reads as it did. -/
def dictFindsUptoRow : OpenClaim := { program := "ytmaddohfkfnnhaa", sum := "af2340d45b8972845df71c5cf1781a48f7d5370be342c02ee93fe3095ed5536e", func := "firkin/firkinlaw16.DictFinds", spec := "dictFinds", unfollowed := true, recurses := true, apart := false, narrowed := true }
def DictFindsUptoSaid : Prop := dictFindsUptoRow.holds Try.pinned (OpenSpec.upto dictFindsSpec)

/-- 'firkinlaw16.DictRange', WHERE WHAT IT READS IS OF BULK AT MOST 1048576: true; the input reads as it did. -/
def dictRangeUptoRow : OpenClaim := { program := "ytmaddohfkfnnhaa", sum := "af2340d45b8972845df71c5cf1781a48f7d5370be342c02ee93fe3095ed5536e", func := "firkin/firkinlaw16.DictRange", spec := "dictRange", unfollowed := true, recurses := true, apart := false, narrowed := true }
def DictRangeUptoSaid : Prop := dictRangeUptoRow.holds Try.pinned (OpenSpec.upto dictRangeSpec)

/-- 'firkinlaw16.DictNone', WHERE WHAT IT READS IS OF BULK AT MOST 1048576: true; the input reads as it did. -/
def dictNoneUptoRow : OpenClaim := { program := "ytmaddohfkfnnhaa", sum := "af2340d45b8972845df71c5cf1781a48f7d5370be342c02ee93fe3095ed5536e", func := "firkin/firkinlaw16.DictNone", spec := "dictNone", unfollowed := true, recurses := true, apart := false, narrowed := true }
def DictNoneUptoSaid : Prop := dictNoneUptoRow.holds Try.pinned (OpenSpec.upto dictNoneSpec)

end Rows
end Go.Proofs.Ytmaddohfkfnnhaa
