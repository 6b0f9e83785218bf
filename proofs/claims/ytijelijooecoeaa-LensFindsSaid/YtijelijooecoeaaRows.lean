/-
  No cell of these rows narrows 'for every input' (looked for: loops, veiled, ifaces, maps, wideKeys, modest, calm, conditions, laid).
  DERIVED. THE GIVEN ROWS OF THIS SEAT. 6 by the template 'for every input the law returns true; each argument reads behind the call as it read before'; 0 by the template 'total and deterministic' (their statements: YtijelijooecoeaaTotals.lean).
  GIVEN WITH THE SEED: the statements are not yours to turn. If you find one false, say at which input.
  Laid BY PROGRAM, IN A SANDBOX (cutbox-rows.mjs): the forced cells as the released guide's own fill.sh prints them over the translation a8d3c8380736ce27… (all of the seat's roots in one cut). By AI agents, Wed Nov 11 2026. No macro, syntax, notation, axiom, sorry.
-/
import Derived.Test.YtijelijooecoeaaChecked
import GoSem.Claim
import GoSem.ClaimJoined
import GoSem.ClaimMapViews
import Derived.JoinedTies
import Derived.KernelRfl
namespace Go.Proofs.Ytijelijooecoeaa
/- THE CELL 'sum', in the pinned program and in every row, IS THE sha256 OF THE DUMP (.gsa) THAT YtijelijooecoeaaProg.lean LOADS. Nothing in Lean hashes anything: it is a label: what it is worth is what the hold of that sum in a sandbox is worth. -/
noncomputable def Try.pinned : Pinned := { name := "ytijelijooecoeaa", sum := "a8d3c8380736ce27ad69c68bc5569f01db16ff6f3ecc3713b0c63e2f83ab232c", checked := Try.checked }
namespace Rows
def none {H : Type} : Left H := { results := [], args := [] }

/-- 'firkinlaw07.LensFinds': WHATEVER THE INPUT: true; the input reads as it did. -/
def lensFindsSpec : ChangeSpec := { name := "lensFinds", fn := fun _ => fun
  | [d1, d2] => { results := [.lit (.bool true)], args := [d1, d2] }
  | _ => none }
def lensFindsRow : OpenClaim := { program := "ytijelijooecoeaa", sum := "a8d3c8380736ce27ad69c68bc5569f01db16ff6f3ecc3713b0c63e2f83ab232c", func := "firkin/firkinlaw07.LensFinds", spec := "lensFinds", unfollowed := true, recurses := true, apart := false }
def LensFindsSaid : Prop := lensFindsRow.holds Try.pinned (OpenSpec.ofChange lensFindsSpec)

/-- ITS FALSE NEIGHBOUR: 'it returns false'. Refute it at one input. -/
def lensFindsWrong : ChangeSpec := { name := "lensFinds", fn := fun _ => fun
  | [d1, d2] => { results := [.lit (.bool false)], args := [d1, d2] }
  | _ => none }
def LensFindsWrongFalsely : Prop := lensFindsRow.holds Try.pinned (OpenSpec.ofChange lensFindsWrong)

/-- 'firkinlaw07.LensWeighs': WHATEVER THE INPUT: true; the input reads as it did. -/
def lensWeighsSpec : ChangeSpec := { name := "lensWeighs", fn := fun _ => fun
  | [d1, d2] => { results := [.lit (.bool true)], args := [d1, d2] }
  | _ => none }
def lensWeighsRow : OpenClaim := { program := "ytijelijooecoeaa", sum := "a8d3c8380736ce27ad69c68bc5569f01db16ff6f3ecc3713b0c63e2f83ab232c", func := "firkin/firkinlaw07.LensWeighs", spec := "lensWeighs", unfollowed := true, recurses := true, apart := false }
def LensWeighsSaid : Prop := lensWeighsRow.holds Try.pinned (OpenSpec.ofChange lensWeighsSpec)

/-- ITS FALSE NEIGHBOUR: 'it returns false'. Refute it at one input. -/
def lensWeighsWrong : ChangeSpec := { name := "lensWeighs", fn := fun _ => fun
  | [d1, d2] => { results := [.lit (.bool false)], args := [d1, d2] }
  | _ => none }
def LensWeighsWrongFalsely : Prop := lensWeighsRow.holds Try.pinned (OpenSpec.ofChange lensWeighsWrong)

/-- 'firkinlaw07.LensFull': WHATEVER THE INPUT: true; the input reads as it did. -/
def lensFullSpec : ChangeSpec := { name := "lensFull", fn := fun _ => fun
  | [d1, d2] => { results := [.lit (.bool true)], args := [d1, d2] }
  | _ => none }
def lensFullRow : OpenClaim := { program := "ytijelijooecoeaa", sum := "a8d3c8380736ce27ad69c68bc5569f01db16ff6f3ecc3713b0c63e2f83ab232c", func := "firkin/firkinlaw07.LensFull", spec := "lensFull", unfollowed := true, recurses := true, apart := false }
def LensFullSaid : Prop := lensFullRow.holds Try.pinned (OpenSpec.ofChange lensFullSpec)

/-- ITS FALSE NEIGHBOUR: 'it returns false'. Refute it at one input. -/
def lensFullWrong : ChangeSpec := { name := "lensFull", fn := fun _ => fun
  | [d1, d2] => { results := [.lit (.bool false)], args := [d1, d2] }
  | _ => none }
def LensFullWrongFalsely : Prop := lensFullRow.holds Try.pinned (OpenSpec.ofChange lensFullWrong)

/-- 'firkinlaw07.LensRare': WHATEVER THE INPUT: true; the input reads as it did. -/
def lensRareSpec : ChangeSpec := { name := "lensRare", fn := fun _ => fun
  | [d1, d2, d3, d4] => { results := [.lit (.bool true)], args := [d1, d2, d3, d4] }
  | _ => none }
def lensRareRow : OpenClaim := { program := "ytijelijooecoeaa", sum := "a8d3c8380736ce27ad69c68bc5569f01db16ff6f3ecc3713b0c63e2f83ab232c", func := "firkin/firkinlaw07.LensRare", spec := "lensRare", unfollowed := true, recurses := true, apart := false }
def LensRareSaid : Prop := lensRareRow.holds Try.pinned (OpenSpec.ofChange lensRareSpec)

/-- ITS FALSE NEIGHBOUR: 'it returns false'. Refute it at one input. -/
def lensRareWrong : ChangeSpec := { name := "lensRare", fn := fun _ => fun
  | [d1, d2, d3, d4] => { results := [.lit (.bool false)], args := [d1, d2, d3, d4] }
  | _ => none }
def LensRareWrongFalsely : Prop := lensRareRow.holds Try.pinned (OpenSpec.ofChange lensRareWrong)

/-- 'firkinlaw07.LensBest': WHATEVER THE INPUT: true; the input reads as it did. -/
def lensBestSpec : ChangeSpec := { name := "lensBest", fn := fun _ => fun
  | [d1, d2, d3] => { results := [.lit (.bool true)], args := [d1, d2, d3] }
  | _ => none }
def lensBestRow : OpenClaim := { program := "ytijelijooecoeaa", sum := "a8d3c8380736ce27ad69c68bc5569f01db16ff6f3ecc3713b0c63e2f83ab232c", func := "firkin/firkinlaw07.LensBest", spec := "lensBest", unfollowed := true, recurses := true, apart := false }
def LensBestSaid : Prop := lensBestRow.holds Try.pinned (OpenSpec.ofChange lensBestSpec)

/-- ITS FALSE NEIGHBOUR: 'it returns false'. Refute it at one input. -/
def lensBestWrong : ChangeSpec := { name := "lensBest", fn := fun _ => fun
  | [d1, d2, d3] => { results := [.lit (.bool false)], args := [d1, d2, d3] }
  | _ => none }
def LensBestWrongFalsely : Prop := lensBestRow.holds Try.pinned (OpenSpec.ofChange lensBestWrong)

/-- 'firkinlaw07.LensMore': WHATEVER THE INPUT: true; the input reads as it did. -/
def lensMoreSpec : ChangeSpec := { name := "lensMore", fn := fun _ => fun
  | [d1, d2] => { results := [.lit (.bool true)], args := [d1, d2] }
  | _ => none }
def lensMoreRow : OpenClaim := { program := "ytijelijooecoeaa", sum := "a8d3c8380736ce27ad69c68bc5569f01db16ff6f3ecc3713b0c63e2f83ab232c", func := "firkin/firkinlaw07.LensMore", spec := "lensMore", unfollowed := true, recurses := true, apart := false }
def LensMoreSaid : Prop := lensMoreRow.holds Try.pinned (OpenSpec.ofChange lensMoreSpec)

/-- ITS FALSE NEIGHBOUR: 'it returns false'. Refute it at one input. -/
def lensMoreWrong : ChangeSpec := { name := "lensMore", fn := fun _ => fun
  | [d1, d2] => { results := [.lit (.bool false)], args := [d1, d2] }
  | _ => none }
def LensMoreWrongFalsely : Prop := lensMoreRow.holds Try.pinned (OpenSpec.ofChange lensMoreWrong)

/- THE SECOND FORM. 'bulk': how many values and letters a reading holds, each counted each time it is reached (what is shared counts as often as it is met; a slice's spare places count too). A statement '..UptoSaid' is the law's where the arguments, and the package variables that the reading takes, are together of bulk at most 1048576: NARROWER than '..Said'. Prove '..Said' where nothing that the law and all that it calls make is longer than what came in: it says more and counts as full. Else prove '..UptoSaid'. A law counts once. -/
mutual
def uptoBulk {H : Type} : DataW H → Nat
  | .lit (.string bytes) => bytes.length + 1
  | .lit _ => 1
  | .nil => 1
  | .ptr d => uptoBulk d + 1
  | .slice elems spare => uptoBulkAll elems + uptoBulkAll spare + 1
  | .agg parts => uptoBulkAll parts + 1
  | .iface _ d => uptoBulk d + 1
  | .map entries => uptoBulkEntries entries + 1
  | .held _ => 1
def uptoBulkAll {H : Type} : List (DataW H) → Nat
  | [] => 0
  | d :: r => uptoBulk d + uptoBulkAll r
def uptoBulkEntries {H : Type} : List (Lit × DataW H) → Nat
  | [] => 0
  | x :: r => uptoBulkEntry x + uptoBulkEntries r
def uptoBulkEntry {H : Type} : Lit × DataW H → Nat
  | (.string bytes, d) => bytes.length + uptoBulk d + 1
  | (_, d) => uptoBulk d + 1
 end
def uptoSmall : (H : Type) → List (DataW H) → Bool := fun _ ds => decide (uptoBulkAll ds ≤ 1048576)
def OpenSpec.upto (s : _root_.Go.ChangeSpec) : _root_.Go.OpenSpec := { _root_.Go.OpenSpec.ofChange s with cond := some uptoSmall }

/-- 'firkinlaw07.LensFinds', WHERE WHAT IT READS IS OF BULK AT MOST 1048576: true; the input reads as it did. -/
def lensFindsUptoRow : OpenClaim := { program := "ytijelijooecoeaa", sum := "a8d3c8380736ce27ad69c68bc5569f01db16ff6f3ecc3713b0c63e2f83ab232c", func := "firkin/firkinlaw07.LensFinds", spec := "lensFinds", unfollowed := true, recurses := true, apart := false, narrowed := true }
def LensFindsUptoSaid : Prop := lensFindsUptoRow.holds Try.pinned (OpenSpec.upto lensFindsSpec)

/-- 'firkinlaw07.LensWeighs', WHERE WHAT IT READS IS OF BULK AT MOST 1048576: true; the input reads as it did. -/
def lensWeighsUptoRow : OpenClaim := { program := "ytijelijooecoeaa", sum := "a8d3c8380736ce27ad69c68bc5569f01db16ff6f3ecc3713b0c63e2f83ab232c", func := "firkin/firkinlaw07.LensWeighs", spec := "lensWeighs", unfollowed := true, recurses := true, apart := false, narrowed := true }
def LensWeighsUptoSaid : Prop := lensWeighsUptoRow.holds Try.pinned (OpenSpec.upto lensWeighsSpec)

/-- 'firkinlaw07.LensFull', WHERE WHAT IT READS IS OF BULK AT MOST 1048576: true; the input reads as it did. -/
def lensFullUptoRow : OpenClaim := { program := "ytijelijooecoeaa", sum := "a8d3c8380736ce27ad69c68bc5569f01db16ff6f3ecc3713b0c63e2f83ab232c", func := "firkin/firkinlaw07.LensFull", spec := "lensFull", unfollowed := true, recurses := true, apart := false, narrowed := true }
def LensFullUptoSaid : Prop := lensFullUptoRow.holds Try.pinned (OpenSpec.upto lensFullSpec)

/-- 'firkinlaw07.LensRare', WHERE WHAT IT READS IS OF BULK AT MOST 1048576: true; the input reads as it did. -/
def lensRareUptoRow : OpenClaim := { program := "ytijelijooecoeaa", sum := "a8d3c8380736ce27ad69c68bc5569f01db16ff6f3ecc3713b0c63e2f83ab232c", func := "firkin/firkinlaw07.LensRare", spec := "lensRare", unfollowed := true, recurses := true, apart := false, narrowed := true }
def LensRareUptoSaid : Prop := lensRareUptoRow.holds Try.pinned (OpenSpec.upto lensRareSpec)

/-- 'firkinlaw07.LensBest', WHERE WHAT IT READS IS OF BULK AT MOST 1048576: true; the input reads as it did. -/
def lensBestUptoRow : OpenClaim := { program := "ytijelijooecoeaa", sum := "a8d3c8380736ce27ad69c68bc5569f01db16ff6f3ecc3713b0c63e2f83ab232c", func := "firkin/firkinlaw07.LensBest", spec := "lensBest", unfollowed := true, recurses := true, apart := false, narrowed := true }
def LensBestUptoSaid : Prop := lensBestUptoRow.holds Try.pinned (OpenSpec.upto lensBestSpec)

/-- 'firkinlaw07.LensMore', WHERE WHAT IT READS IS OF BULK AT MOST 1048576: true; the input reads as it did. -/
def lensMoreUptoRow : OpenClaim := { program := "ytijelijooecoeaa", sum := "a8d3c8380736ce27ad69c68bc5569f01db16ff6f3ecc3713b0c63e2f83ab232c", func := "firkin/firkinlaw07.LensMore", spec := "lensMore", unfollowed := true, recurses := true, apart := false, narrowed := true }
def LensMoreUptoSaid : Prop := lensMoreUptoRow.holds Try.pinned (OpenSpec.upto lensMoreSpec)

end Rows
end Go.Proofs.Ytijelijooecoeaa
