/-
  No cell of these rows narrows 'for every input' (looked for: loops, veiled, ifaces, maps, wideKeys, modest, calm, conditions, laid).
  DERIVED. THE GIVEN ROWS OF THIS SEAT. 6 by the template 'for every input the law returns true; each argument reads behind the call as it read before'; 0 by the template 'total and deterministic' (their statements: YtdpeidijaohgcaaTotals.lean).
  GIVEN WITH THE SEED: the statements are not yours to turn. If you find one false, say at which input.
  Laid BY PROGRAM, IN A SANDBOX (cutbox-rows.mjs): the forced cells as the released guide's own fill.sh prints them over the translation 3d93d311f88f6241… (all of the seat's roots in one cut). By AI agents, Wed Nov 11 2026. No macro, syntax, notation, axiom, sorry.
-/
import Derived.Test.YtdpeidijaohgcaaChecked
import GoSem.Claim
import GoSem.ClaimJoined
import GoSem.ClaimMapViews
import Derived.JoinedTies
import Derived.KernelRfl
namespace Go.Proofs.Ytdpeidijaohgcaa
/- THE CELL 'sum', in the pinned program and in every row, IS THE sha256 OF THE DUMP (.gsa) THAT YtdpeidijaohgcaaProg.lean LOADS. Nothing in Lean hashes anything: it is a label: what it is worth is what the hold of that sum in a sandbox is worth. -/
noncomputable def Try.pinned : Pinned := { name := "ytdpeidijaohgcaa", sum := "3d93d311f88f6241167a0ad75fc5888b597a1620f270d80d2abfa24847f0fff6", checked := Try.checked }
namespace Rows
def none {H : Type} : Left H := { results := [], args := [] }

/-- 'firkinlaw13.EfWrites': WHATEVER THE INPUT: true; the input reads as it did. -/
def efWritesSpec : ChangeSpec := { name := "efWrites", fn := fun _ => fun
  | [d1, d2] => { results := [.lit (.bool true)], args := [d1, d2] }
  | _ => none }
def efWritesRow : OpenClaim := { program := "ytdpeidijaohgcaa", sum := "3d93d311f88f6241167a0ad75fc5888b597a1620f270d80d2abfa24847f0fff6", func := "firkin/firkinlaw13.EfWrites", spec := "efWrites", apart := false }
def EfWritesSaid : Prop := efWritesRow.holds Try.pinned (OpenSpec.ofChange efWritesSpec)

/-- ITS FALSE NEIGHBOUR: 'it returns false'. Refute it at one input. -/
def efWritesWrong : ChangeSpec := { name := "efWrites", fn := fun _ => fun
  | [d1, d2] => { results := [.lit (.bool false)], args := [d1, d2] }
  | _ => none }
def EfWritesWrongFalsely : Prop := efWritesRow.holds Try.pinned (OpenSpec.ofChange efWritesWrong)

/-- 'firkinlaw13.EfBack': WHATEVER THE INPUT: true; the input reads as it did. -/
def efBackSpec : ChangeSpec := { name := "efBack", fn := fun _ => fun
  | [d1, d2, d3] => { results := [.lit (.bool true)], args := [d1, d2, d3] }
  | _ => none }
def efBackRow : OpenClaim := { program := "ytdpeidijaohgcaa", sum := "3d93d311f88f6241167a0ad75fc5888b597a1620f270d80d2abfa24847f0fff6", func := "firkin/firkinlaw13.EfBack", spec := "efBack", unfollowed := true, recurses := true, apart := false }
def EfBackSaid : Prop := efBackRow.holds Try.pinned (OpenSpec.ofChange efBackSpec)

/-- ITS FALSE NEIGHBOUR: 'it returns false'. Refute it at one input. -/
def efBackWrong : ChangeSpec := { name := "efBack", fn := fun _ => fun
  | [d1, d2, d3] => { results := [.lit (.bool false)], args := [d1, d2, d3] }
  | _ => none }
def EfBackWrongFalsely : Prop := efBackRow.holds Try.pinned (OpenSpec.ofChange efBackWrong)

/-- 'firkinlaw13.EfOne': WHATEVER THE INPUT: true; the input reads as it did. -/
def efOneSpec : ChangeSpec := { name := "efOne", fn := fun _ => fun
  | [d1, d2] => { results := [.lit (.bool true)], args := [d1, d2] }
  | _ => none }
def efOneRow : OpenClaim := { program := "ytdpeidijaohgcaa", sum := "3d93d311f88f6241167a0ad75fc5888b597a1620f270d80d2abfa24847f0fff6", func := "firkin/firkinlaw13.EfOne", spec := "efOne", unfollowed := true, recurses := true, apart := false }
def EfOneSaid : Prop := efOneRow.holds Try.pinned (OpenSpec.ofChange efOneSpec)

/-- ITS FALSE NEIGHBOUR: 'it returns false'. Refute it at one input. -/
def efOneWrong : ChangeSpec := { name := "efOne", fn := fun _ => fun
  | [d1, d2] => { results := [.lit (.bool false)], args := [d1, d2] }
  | _ => none }
def EfOneWrongFalsely : Prop := efOneRow.holds Try.pinned (OpenSpec.ofChange efOneWrong)

/-- 'firkinlaw13.EfFinds': WHATEVER THE INPUT: true; the input reads as it did. -/
def efFindsSpec : ChangeSpec := { name := "efFinds", fn := fun _ => fun
  | [d1, d2, d3, d4] => { results := [.lit (.bool true)], args := [d1, d2, d3, d4] }
  | _ => none }
def efFindsRow : OpenClaim := { program := "ytdpeidijaohgcaa", sum := "3d93d311f88f6241167a0ad75fc5888b597a1620f270d80d2abfa24847f0fff6", func := "firkin/firkinlaw13.EfFinds", spec := "efFinds", unfollowed := true, recurses := true, apart := false }
def EfFindsSaid : Prop := efFindsRow.holds Try.pinned (OpenSpec.ofChange efFindsSpec)

/-- ITS FALSE NEIGHBOUR: 'it returns false'. Refute it at one input. -/
def efFindsWrong : ChangeSpec := { name := "efFinds", fn := fun _ => fun
  | [d1, d2, d3, d4] => { results := [.lit (.bool false)], args := [d1, d2, d3, d4] }
  | _ => none }
def EfFindsWrongFalsely : Prop := efFindsRow.holds Try.pinned (OpenSpec.ofChange efFindsWrong)

/-- 'firkinlaw13.EfNone': WHATEVER THE INPUT: true; the input reads as it did. -/
def efNoneSpec : ChangeSpec := { name := "efNone", fn := fun _ => fun
  | [d1, d2] => { results := [.lit (.bool true)], args := [d1, d2] }
  | _ => none }
def efNoneRow : OpenClaim := { program := "ytdpeidijaohgcaa", sum := "3d93d311f88f6241167a0ad75fc5888b597a1620f270d80d2abfa24847f0fff6", func := "firkin/firkinlaw13.EfNone", spec := "efNone", unfollowed := true, recurses := true, apart := false }
def EfNoneSaid : Prop := efNoneRow.holds Try.pinned (OpenSpec.ofChange efNoneSpec)

/-- ITS FALSE NEIGHBOUR: 'it returns false'. Refute it at one input. -/
def efNoneWrong : ChangeSpec := { name := "efNone", fn := fun _ => fun
  | [d1, d2] => { results := [.lit (.bool false)], args := [d1, d2] }
  | _ => none }
def EfNoneWrongFalsely : Prop := efNoneRow.holds Try.pinned (OpenSpec.ofChange efNoneWrong)

/-- 'firkinlaw13.EfShort': WHATEVER THE INPUT: true; the input reads as it did. -/
def efShortSpec : ChangeSpec := { name := "efShort", fn := fun _ => fun
  | [d1, d2] => { results := [.lit (.bool true)], args := [d1, d2] }
  | _ => none }
def efShortRow : OpenClaim := { program := "ytdpeidijaohgcaa", sum := "3d93d311f88f6241167a0ad75fc5888b597a1620f270d80d2abfa24847f0fff6", func := "firkin/firkinlaw13.EfShort", spec := "efShort", apart := false }
def EfShortSaid : Prop := efShortRow.holds Try.pinned (OpenSpec.ofChange efShortSpec)

/-- ITS FALSE NEIGHBOUR: 'it returns false'. Refute it at one input. -/
def efShortWrong : ChangeSpec := { name := "efShort", fn := fun _ => fun
  | [d1, d2] => { results := [.lit (.bool false)], args := [d1, d2] }
  | _ => none }
def EfShortWrongFalsely : Prop := efShortRow.holds Try.pinned (OpenSpec.ofChange efShortWrong)

/- THE SECOND FORM. 'bulk': how many values and letters a reading holds, each counted each time it is reached (what is shared counts as often as it is met; a slice's spare places count too). A statement '..UptoSaid' is the law's where the arguments, and the package variables that the reading takes, are together of bulk at most 1048576: NARROWER than '..Said'. Prove '..Said' where nothing that the law and all that it calls make is longer than what came in: it says more and counts as full. Else prove '..UptoSaid'. A law counts once. -/
mutual
def uptoBulk {H : Type} : DataW H → Nat
  | .lit (.string bytes) => bytes.length + 1
  | .lit _ => 1
  | .nil => 1
  | .ptr d => uptoBulk d + 1
  | .slice elems spare => uptoBulkAll elems + uptoBulkAll spare + 1
  | .agg parts => uptoBulkAll parts + 1
  | .iface _ d => uptoBulk d + 1
  | .map entries => uptoBulkEntries entries + 1
  | .held _ => 1
def uptoBulkAll {H : Type} : List (DataW H) → Nat
  | [] => 0
  | d :: r => uptoBulk d + uptoBulkAll r
def uptoBulkEntries {H : Type} : List (Lit × DataW H) → Nat
  | [] => 0
  | x :: r => uptoBulkEntry x + uptoBulkEntries r
def uptoBulkEntry {H : Type} : Lit × DataW H → Nat
  | (.string bytes, d) => bytes.length + uptoBulk d + 1
  | (_, d) => uptoBulk d + 1
 end
def uptoSmall : (H : Type) → List (DataW H) → Bool := fun _ ds => decide (uptoBulkAll ds ≤ 1048576)
def OpenSpec.upto (s : _root_.Go.ChangeSpec) : _root_.Go.OpenSpec := { _root_.Go.OpenSpec.ofChange s with cond := some uptoSmall }

/-- 'firkinlaw13.EfWrites', WHERE WHAT IT READS IS OF BULK AT MOST 1048576: true; the input reads as it did. -/
def efWritesUptoRow : OpenClaim := { program := "ytdpeidijaohgcaa", sum := "3d93d311f88f6241167a0ad75fc5888b597a1620f270d80d2abfa24847f0fff6", func := "firkin/firkinlaw13.EfWrites", spec := "efWrites", apart := false, narrowed := true }
def EfWritesUptoSaid : Prop := efWritesUptoRow.holds Try.pinned (OpenSpec.upto efWritesSpec)

/-- 'firkinlaw13.EfBack', WHERE WHAT IT READS IS OF BULK AT MOST 1048576: true; the input reads as it did. -/
def efBackUptoRow : OpenClaim := { program := "ytdpeidijaohgcaa", sum := "3d93d311f88f6241167a0ad75fc5888b597a1620f270d80d2abfa24847f0fff6", func := "firkin/firkinlaw13.EfBack", spec := "efBack", unfollowed := true, recurses := true, apart := false, narrowed := true }
def EfBackUptoSaid : Prop := efBackUptoRow.holds Try.pinned (OpenSpec.upto efBackSpec)

/-- 'firkinlaw13.EfOne', WHERE WHAT IT READS IS OF BULK AT MOST 1048576: true; the input reads as it did. -/
def efOneUptoRow : OpenClaim := { program := "ytdpeidijaohgcaa", sum := "3d93d311f88f6241167a0ad75fc5888b597a1620f270d80d2abfa24847f0fff6", func := "firkin/firkinlaw13.EfOne", spec := "efOne", unfollowed := true, recurses := true, apart := false, narrowed := true }
def EfOneUptoSaid : Prop := efOneUptoRow.holds Try.pinned (OpenSpec.upto efOneSpec)

/-- 'firkinlaw13.EfFinds', WHERE WHAT IT READS IS OF BULK AT MOST 1048576: true; the input reads as it did. -/
def efFindsUptoRow : OpenClaim := { program := "ytdpeidijaohgcaa", sum := "3d93d311f88f6241167a0ad75fc5888b597a1620f270d80d2abfa24847f0fff6", func := "firkin/firkinlaw13.EfFinds", spec := "efFinds", unfollowed := true, recurses := true, apart := false, narrowed := true }
def EfFindsUptoSaid : Prop := efFindsUptoRow.holds Try.pinned (OpenSpec.upto efFindsSpec)

/-- 'firkinlaw13.EfNone', WHERE WHAT IT READS IS OF BULK AT MOST 1048576: true; the input reads as it did. -/
def efNoneUptoRow : OpenClaim := { program := "ytdpeidijaohgcaa", sum := "3d93d311f88f6241167a0ad75fc5888b597a1620f270d80d2abfa24847f0fff6", func := "firkin/firkinlaw13.EfNone", spec := "efNone", unfollowed := true, recurses := true, apart := false, narrowed := true }
def EfNoneUptoSaid : Prop := efNoneUptoRow.holds Try.pinned (OpenSpec.upto efNoneSpec)

/-- 'firkinlaw13.EfShort', WHERE WHAT IT READS IS OF BULK AT MOST 1048576: true; the input reads as it did. -/
def efShortUptoRow : OpenClaim := { program := "ytdpeidijaohgcaa", sum := "3d93d311f88f6241167a0ad75fc5888b597a1620f270d80d2abfa24847f0fff6", func := "firkin/firkinlaw13.EfShort", spec := "efShort", apart := false, narrowed := true }
def EfShortUptoSaid : Prop := efShortUptoRow.holds Try.pinned (OpenSpec.upto efShortSpec)

end Rows
end Go.Proofs.Ytdpeidijaohgcaa
