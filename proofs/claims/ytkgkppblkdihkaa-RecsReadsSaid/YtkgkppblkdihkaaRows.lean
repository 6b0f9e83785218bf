/-
  No cell of these rows narrows 'for every input' (looked for: loops, veiled, ifaces, maps, wideKeys, modest, calm, conditions, laid).
  DERIVED. THE GIVEN ROWS OF THIS SEAT. 9 by the template 'for every input the law returns true; each argument reads behind the call as it read before'; 0 by the template 'total and deterministic' (their statements: YtkgkppblkdihkaaTotals.lean).
  GIVEN WITH THE SEED: the statements are not yours to turn. If you find one false, say at which input.
  Laid BY PROGRAM, IN A SANDBOX (cutbox-rows.mjs): the forced cells as the released guide's own fill.sh prints them over the translation 1ff90e2a6fc9e66f… (all of the seat's roots in one cut). By AI agents, Wed Nov 11 2026. No macro, syntax, notation, axiom, sorry.
-/
import Derived.Test.YtkgkppblkdihkaaChecked
import GoSem.Claim
import GoSem.ClaimJoined
import GoSem.ClaimMapViews
import Derived.JoinedTies
import Derived.KernelRfl
namespace Go.Proofs.Ytkgkppblkdihkaa
/- THE CELL 'sum', in the pinned program and in every row, IS THE sha256 OF THE DUMP (.gsa) THAT YtkgkppblkdihkaaProg.lean LOADS. Nothing in Lean hashes anything: it is a label: what it is worth is what the hold of that sum in a sandbox is worth. -/
noncomputable def Try.pinned : Pinned := { name := "ytkgkppblkdihkaa", sum := "1ff90e2a6fc9e66fc8e9d2d024a295e2fc47808e38145180aa9a884ce6685bf4", checked := Try.checked }
namespace Rows
def none {H : Type} : Left H := { results := [], args := [] }

/-- 'firkinlaw17.RecsChecks': WHATEVER THE INPUT: true; the input reads as it did. -/
def recsChecksSpec : ChangeSpec := { name := "recsChecks", fn := fun _ => fun
  | [d] => { results := [.lit (.bool true)], args := [d] }
  | _ => none }
def recsChecksRow : OpenClaim := { program := "ytkgkppblkdihkaa", sum := "1ff90e2a6fc9e66fc8e9d2d024a295e2fc47808e38145180aa9a884ce6685bf4", func := "firkin/firkinlaw17.RecsChecks", spec := "recsChecks", unfollowed := true, recurses := true, apart := false }
def RecsChecksSaid : Prop := recsChecksRow.holds Try.pinned (OpenSpec.ofChange recsChecksSpec)

/-- ITS FALSE NEIGHBOUR: 'it returns false'. Refute it at one input. -/
def recsChecksWrong : ChangeSpec := { name := "recsChecks", fn := fun _ => fun
  | [d] => { results := [.lit (.bool false)], args := [d] }
  | _ => none }
def RecsChecksWrongFalsely : Prop := recsChecksRow.holds Try.pinned (OpenSpec.ofChange recsChecksWrong)

/-- 'firkinlaw17.RecsBytes': WHATEVER THE INPUT: true; the input reads as it did. -/
def recsBytesSpec : ChangeSpec := { name := "recsBytes", fn := fun _ => fun
  | [d1, d2] => { results := [.lit (.bool true)], args := [d1, d2] }
  | _ => none }
def recsBytesRow : OpenClaim := { program := "ytkgkppblkdihkaa", sum := "1ff90e2a6fc9e66fc8e9d2d024a295e2fc47808e38145180aa9a884ce6685bf4", func := "firkin/firkinlaw17.RecsBytes", spec := "recsBytes", unfollowed := true, recurses := true, apart := false }
def RecsBytesSaid : Prop := recsBytesRow.holds Try.pinned (OpenSpec.ofChange recsBytesSpec)

/-- ITS FALSE NEIGHBOUR: 'it returns false'. Refute it at one input. -/
def recsBytesWrong : ChangeSpec := { name := "recsBytes", fn := fun _ => fun
  | [d1, d2] => { results := [.lit (.bool false)], args := [d1, d2] }
  | _ => none }
def RecsBytesWrongFalsely : Prop := recsBytesRow.holds Try.pinned (OpenSpec.ofChange recsBytesWrong)

/-- 'firkinlaw17.RecsReads': WHATEVER THE INPUT: true; the input reads as it did. -/
def recsReadsSpec : ChangeSpec := { name := "recsReads", fn := fun _ => fun
  | [d1, d2] => { results := [.lit (.bool true)], args := [d1, d2] }
  | _ => none }
def recsReadsRow : OpenClaim := { program := "ytkgkppblkdihkaa", sum := "1ff90e2a6fc9e66fc8e9d2d024a295e2fc47808e38145180aa9a884ce6685bf4", func := "firkin/firkinlaw17.RecsReads", spec := "recsReads", unfollowed := true, recurses := true, apart := false }
def RecsReadsSaid : Prop := recsReadsRow.holds Try.pinned (OpenSpec.ofChange recsReadsSpec)

/-- ITS FALSE NEIGHBOUR: 'it returns false'. Refute it at one input. -/
def recsReadsWrong : ChangeSpec := { name := "recsReads", fn := fun _ => fun
  | [d1, d2] => { results := [.lit (.bool false)], args := [d1, d2] }
  | _ => none }
def RecsReadsWrongFalsely : Prop := recsReadsRow.holds Try.pinned (OpenSpec.ofChange recsReadsWrong)

/-- 'firkinlaw17.RecsBack': WHATEVER THE INPUT: true; the input reads as it did. -/
def recsBackSpec : ChangeSpec := { name := "recsBack", fn := fun _ => fun
  | [d1, d2] => { results := [.lit (.bool true)], args := [d1, d2] }
  | _ => none }
def recsBackRow : OpenClaim := { program := "ytkgkppblkdihkaa", sum := "1ff90e2a6fc9e66fc8e9d2d024a295e2fc47808e38145180aa9a884ce6685bf4", func := "firkin/firkinlaw17.RecsBack", spec := "recsBack", unfollowed := true, recurses := true, apart := false }
def RecsBackSaid : Prop := recsBackRow.holds Try.pinned (OpenSpec.ofChange recsBackSpec)

/-- ITS FALSE NEIGHBOUR: 'it returns false'. Refute it at one input. -/
def recsBackWrong : ChangeSpec := { name := "recsBack", fn := fun _ => fun
  | [d1, d2] => { results := [.lit (.bool false)], args := [d1, d2] }
  | _ => none }
def RecsBackWrongFalsely : Prop := recsBackRow.holds Try.pinned (OpenSpec.ofChange recsBackWrong)

/-- 'firkinlaw17.RecsOne': WHATEVER THE INPUT: true; the input reads as it did. -/
def recsOneSpec : ChangeSpec := { name := "recsOne", fn := fun _ => fun
  | [d1, d2] => { results := [.lit (.bool true)], args := [d1, d2] }
  | _ => none }
def recsOneRow : OpenClaim := { program := "ytkgkppblkdihkaa", sum := "1ff90e2a6fc9e66fc8e9d2d024a295e2fc47808e38145180aa9a884ce6685bf4", func := "firkin/firkinlaw17.RecsOne", spec := "recsOne", unfollowed := true, recurses := true, apart := false }
def RecsOneSaid : Prop := recsOneRow.holds Try.pinned (OpenSpec.ofChange recsOneSpec)

/-- ITS FALSE NEIGHBOUR: 'it returns false'. Refute it at one input. -/
def recsOneWrong : ChangeSpec := { name := "recsOne", fn := fun _ => fun
  | [d1, d2] => { results := [.lit (.bool false)], args := [d1, d2] }
  | _ => none }
def RecsOneWrongFalsely : Prop := recsOneRow.holds Try.pinned (OpenSpec.ofChange recsOneWrong)

/-- 'firkinlaw17.RecsGroups': WHATEVER THE INPUT: true; the input reads as it did. -/
def recsGroupsSpec : ChangeSpec := { name := "recsGroups", fn := fun _ => fun
  | [d1, d2, d3] => { results := [.lit (.bool true)], args := [d1, d2, d3] }
  | _ => none }
def recsGroupsRow : OpenClaim := { program := "ytkgkppblkdihkaa", sum := "1ff90e2a6fc9e66fc8e9d2d024a295e2fc47808e38145180aa9a884ce6685bf4", func := "firkin/firkinlaw17.RecsGroups", spec := "recsGroups", unfollowed := true, recurses := true, apart := false }
def RecsGroupsSaid : Prop := recsGroupsRow.holds Try.pinned (OpenSpec.ofChange recsGroupsSpec)

/-- ITS FALSE NEIGHBOUR: 'it returns false'. Refute it at one input. -/
def recsGroupsWrong : ChangeSpec := { name := "recsGroups", fn := fun _ => fun
  | [d1, d2, d3] => { results := [.lit (.bool false)], args := [d1, d2, d3] }
  | _ => none }
def RecsGroupsWrongFalsely : Prop := recsGroupsRow.holds Try.pinned (OpenSpec.ofChange recsGroupsWrong)

/-- 'firkinlaw17.RecsFits': WHATEVER THE INPUT: true; the input reads as it did. -/
def recsFitsSpec : ChangeSpec := { name := "recsFits", fn := fun _ => fun
  | [d1, d2, d3] => { results := [.lit (.bool true)], args := [d1, d2, d3] }
  | _ => none }
def recsFitsRow : OpenClaim := { program := "ytkgkppblkdihkaa", sum := "1ff90e2a6fc9e66fc8e9d2d024a295e2fc47808e38145180aa9a884ce6685bf4", func := "firkin/firkinlaw17.RecsFits", spec := "recsFits", unfollowed := true, recurses := true, apart := false }
def RecsFitsSaid : Prop := recsFitsRow.holds Try.pinned (OpenSpec.ofChange recsFitsSpec)

/-- ITS FALSE NEIGHBOUR: 'it returns false'. Refute it at one input. -/
def recsFitsWrong : ChangeSpec := { name := "recsFits", fn := fun _ => fun
  | [d1, d2, d3] => { results := [.lit (.bool false)], args := [d1, d2, d3] }
  | _ => none }
def RecsFitsWrongFalsely : Prop := recsFitsRow.holds Try.pinned (OpenSpec.ofChange recsFitsWrong)

/-- 'firkinlaw17.RecsColumns': WHATEVER THE INPUT: true; the input reads as it did. -/
def recsColumnsSpec : ChangeSpec := { name := "recsColumns", fn := fun _ => fun
  | [d1, d2, d3] => { results := [.lit (.bool true)], args := [d1, d2, d3] }
  | _ => none }
def recsColumnsRow : OpenClaim := { program := "ytkgkppblkdihkaa", sum := "1ff90e2a6fc9e66fc8e9d2d024a295e2fc47808e38145180aa9a884ce6685bf4", func := "firkin/firkinlaw17.RecsColumns", spec := "recsColumns", unfollowed := true, recurses := true, apart := false }
def RecsColumnsSaid : Prop := recsColumnsRow.holds Try.pinned (OpenSpec.ofChange recsColumnsSpec)

/-- ITS FALSE NEIGHBOUR: 'it returns false'. Refute it at one input. -/
def recsColumnsWrong : ChangeSpec := { name := "recsColumns", fn := fun _ => fun
  | [d1, d2, d3] => { results := [.lit (.bool false)], args := [d1, d2, d3] }
  | _ => none }
def RecsColumnsWrongFalsely : Prop := recsColumnsRow.holds Try.pinned (OpenSpec.ofChange recsColumnsWrong)

/-- 'firkinlaw17.RecsApart': WHATEVER THE INPUT: true; the input reads as it did. -/
def recsApartSpec : ChangeSpec := { name := "recsApart", fn := fun _ => fun
  | [d1, d2] => { results := [.lit (.bool true)], args := [d1, d2] }
  | _ => none }
def recsApartRow : OpenClaim := { program := "ytkgkppblkdihkaa", sum := "1ff90e2a6fc9e66fc8e9d2d024a295e2fc47808e38145180aa9a884ce6685bf4", func := "firkin/firkinlaw17.RecsApart", spec := "recsApart", unfollowed := true, recurses := true, apart := false }
def RecsApartSaid : Prop := recsApartRow.holds Try.pinned (OpenSpec.ofChange recsApartSpec)

/-- ITS FALSE NEIGHBOUR: 'it returns false'. Refute it at one input. -/
def recsApartWrong : ChangeSpec := { name := "recsApart", fn := fun _ => fun
  | [d1, d2] => { results := [.lit (.bool false)], args := [d1, d2] }
  | _ => none }
def RecsApartWrongFalsely : Prop := recsApartRow.holds Try.pinned (OpenSpec.ofChange recsApartWrong)

/- THE SECOND FORM. 'bulk': how many values and letters a reading holds, each counted each time it is reached (what is shared counts as often as it is met; a slice's spare places count too). A statement '..UptoSaid' is the law's where the arguments, and the package variables that the reading takes, are together of bulk at most 1048576: NARROWER than '..Said'. Prove '..Said' where nothing that the law and all that it calls make is longer than what came in: it says more and counts as full. Else prove '..UptoSaid'. A law counts once. -/
mutual
def uptoBulk {H : Type} : DataW H → Nat
  | .lit (.string bytes) => bytes.length + 1
  | .lit _ => 1
  | .nil => 1
  | .ptr d => uptoBulk d + 1
  | .slice elems spare => uptoBulkAll elems + uptoBulkAll spare + 1
  | .agg parts => uptoBulkAll parts + 1
  | .iface _ d => uptoBulk d + 1
  | .map entries => uptoBulkEntries entries + 1
  | .held _ => 1
def uptoBulkAll {H : Type} : List (DataW H) → Nat
  | [] => 0
  | d :: r => uptoBulk d + uptoBulkAll r
def uptoBulkEntries {H : Type} : List (Lit × DataW H) → Nat
  | [] => 0
  | x :: r => uptoBulkEntry x + uptoBulkEntries r
def uptoBulkEntry {H : Type} : Lit × DataW H → Nat
  | (.string bytes, d) => bytes.length + uptoBulk d + 1
  | (_, d) => uptoBulk d + 1
 end
def uptoSmall : (H : Type) → List (DataW H) → Bool := fun _ ds => decide (uptoBulkAll ds ≤ 1048576)
def OpenSpec.upto (s : _root_.Go.ChangeSpec) : _root_.Go.OpenSpec := { _root_.Go.OpenSpec.ofChange s with cond := some uptoSmall }

/-- 'firkinlaw17.RecsChecks', WHERE WHAT IT READS IS OF BULK AT MOST 1048576: true; the input reads as it did. -/
def recsChecksUptoRow : OpenClaim := { program := "ytkgkppblkdihkaa", sum := "1ff90e2a6fc9e66fc8e9d2d024a295e2fc47808e38145180aa9a884ce6685bf4", func := "firkin/firkinlaw17.RecsChecks", spec := "recsChecks", unfollowed := true, recurses := true, apart := false, narrowed := true }
def RecsChecksUptoSaid : Prop := recsChecksUptoRow.holds Try.pinned (OpenSpec.upto recsChecksSpec)

/-- 'firkinlaw17.RecsBytes', WHERE WHAT IT READS IS OF BULK AT MOST 1048576: true; the input reads as it did. -/
def recsBytesUptoRow : OpenClaim := { program := "ytkgkppblkdihkaa", sum := "1ff90e2a6fc9e66fc8e9d2d024a295e2fc47808e38145180aa9a884ce6685bf4", func := "firkin/firkinlaw17.RecsBytes", spec := "recsBytes", unfollowed := true, recurses := true, apart := false, narrowed := true }
def RecsBytesUptoSaid : Prop := recsBytesUptoRow.holds Try.pinned (OpenSpec.upto recsBytesSpec)

/-- 'firkinlaw17.RecsReads', WHERE WHAT IT READS IS OF BULK AT MOST 1048576: true; the input reads as it did. -/
def recsReadsUptoRow : OpenClaim := { program := "ytkgkppblkdihkaa", sum := "1ff90e2a6fc9e66fc8e9d2d024a295e2fc47808e38145180aa9a884ce6685bf4", func := "firkin/firkinlaw17.RecsReads", spec := "recsReads", unfollowed := true, recurses := true, apart := false, narrowed := true }
def RecsReadsUptoSaid : Prop := recsReadsUptoRow.holds Try.pinned (OpenSpec.upto recsReadsSpec)

/-- 'firkinlaw17.RecsBack', WHERE WHAT IT READS IS OF BULK AT MOST 1048576: true; the input reads as it did. -/
def recsBackUptoRow : OpenClaim := { program := "ytkgkppblkdihkaa", sum := "1ff90e2a6fc9e66fc8e9d2d024a295e2fc47808e38145180aa9a884ce6685bf4", func := "firkin/firkinlaw17.RecsBack", spec := "recsBack", unfollowed := true, recurses := true, apart := false, narrowed := true }
def RecsBackUptoSaid : Prop := recsBackUptoRow.holds Try.pinned (OpenSpec.upto recsBackSpec)

/-- 'firkinlaw17.RecsOne', WHERE WHAT IT READS IS OF BULK AT MOST 1048576: true; the input reads as it did. -/
def recsOneUptoRow : OpenClaim := { program := "ytkgkppblkdihkaa", sum := "1ff90e2a6fc9e66fc8e9d2d024a295e2fc47808e38145180aa9a884ce6685bf4", func := "firkin/firkinlaw17.RecsOne", spec := "recsOne", unfollowed := true, recurses := true, apart := false, narrowed := true }
def RecsOneUptoSaid : Prop := recsOneUptoRow.holds Try.pinned (OpenSpec.upto recsOneSpec)

/-- 'firkinlaw17.RecsGroups', WHERE WHAT IT READS IS OF BULK AT MOST 1048576: true; the input reads as it did. -/
def recsGroupsUptoRow : OpenClaim := { program := "ytkgkppblkdihkaa", sum := "1ff90e2a6fc9e66fc8e9d2d024a295e2fc47808e38145180aa9a884ce6685bf4", func := "firkin/firkinlaw17.RecsGroups", spec := "recsGroups", unfollowed := true, recurses := true, apart := false, narrowed := true }
def RecsGroupsUptoSaid : Prop := recsGroupsUptoRow.holds Try.pinned (OpenSpec.upto recsGroupsSpec)

/-- 'firkinlaw17.RecsFits', WHERE WHAT IT READS IS OF BULK AT MOST 1048576: true; the input reads as it did. -/
def recsFitsUptoRow : OpenClaim := { program := "ytkgkppblkdihkaa", sum := "1ff90e2a6fc9e66fc8e9d2d024a295e2fc47808e38145180aa9a884ce6685bf4", func := "firkin/firkinlaw17.RecsFits", spec := "recsFits", unfollowed := true, recurses := true, apart := false, narrowed := true }
def RecsFitsUptoSaid : Prop := recsFitsUptoRow.holds Try.pinned (OpenSpec.upto recsFitsSpec)

/-- 'firkinlaw17.RecsColumns', WHERE WHAT IT READS IS OF BULK AT MOST 1048576: true; the input reads as it did. -/
def recsColumnsUptoRow : OpenClaim := { program := "ytkgkppblkdihkaa", sum := "1ff90e2a6fc9e66fc8e9d2d024a295e2fc47808e38145180aa9a884ce6685bf4", func := "firkin/firkinlaw17.RecsColumns", spec := "recsColumns", unfollowed := true, recurses := true, apart := false, narrowed := true }
def RecsColumnsUptoSaid : Prop := recsColumnsUptoRow.holds Try.pinned (OpenSpec.upto recsColumnsSpec)

/-- 'firkinlaw17.RecsApart', WHERE WHAT IT READS IS OF BULK AT MOST 1048576: true; the input reads as it did. -/
def recsApartUptoRow : OpenClaim := { program := "ytkgkppblkdihkaa", sum := "1ff90e2a6fc9e66fc8e9d2d024a295e2fc47808e38145180aa9a884ce6685bf4", func := "firkin/firkinlaw17.RecsApart", spec := "recsApart", unfollowed := true, recurses := true, apart := false, narrowed := true }
def RecsApartUptoSaid : Prop := recsApartUptoRow.holds Try.pinned (OpenSpec.upto recsApartSpec)

end Rows
end Go.Proofs.Ytkgkppblkdihkaa
