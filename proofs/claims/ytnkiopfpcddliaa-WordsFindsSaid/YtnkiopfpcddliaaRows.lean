/-
  No cell of these rows narrows 'for every input' (looked for: loops, veiled, ifaces, maps, wideKeys, modest, calm, conditions, laid).
  DERIVED. THE GIVEN ROWS OF THIS SEAT. 7 by the template 'for every input the law returns true; each argument reads behind the call as it read before'; 0 by the template 'total and deterministic' (their statements: YtnkiopfpcddliaaTotals.lean).
  GIVEN WITH THE SEED: the statements are not yours to turn. If you find one false, say at which input.
  Laid BY PROGRAM, IN A SANDBOX (cutbox-rows.mjs): the forced cells as the released guide's own fill.sh prints them over the translation 0b0417d181797dbc… (all of the seat's roots in one cut). By AI agents, Wed Nov 11 2026. No macro, syntax, notation, axiom, sorry.
-/
import Derived.Test.YtnkiopfpcddliaaChecked
import GoSem.Claim
import GoSem.ClaimJoined
import GoSem.ClaimMapViews
import Derived.JoinedTies
import Derived.KernelRfl
namespace Go.Proofs.Ytnkiopfpcddliaa
/- THE CELL 'sum', in the pinned program and in every row, IS THE sha256 OF THE DUMP (.gsa) THAT YtnkiopfpcddliaaProg.lean LOADS. Nothing in Lean hashes anything: it is a label: what it is worth is what the hold of that sum in a sandbox is worth. -/
noncomputable def Try.pinned : Pinned := { name := "ytnkiopfpcddliaa", sum := "0b0417d181797dbc008d7c389f98b64f02da29674012137b879d83509cb041b9", checked := Try.checked }
namespace Rows
def none {H : Type} : Left H := { results := [], args := [] }

/-- 'firkinlaw15.WordsFinds': WHATEVER THE INPUT: true; the input reads as it did. -/
def wordsFindsSpec : ChangeSpec := { name := "wordsFinds", fn := fun _ => fun
  | [d] => { results := [.lit (.bool true)], args := [d] }
  | _ => none }
def wordsFindsRow : OpenClaim := { program := "ytnkiopfpcddliaa", sum := "0b0417d181797dbc008d7c389f98b64f02da29674012137b879d83509cb041b9", func := "firkin/firkinlaw15.WordsFinds", spec := "wordsFinds", unfollowed := true, recurses := true, apart := false }
def WordsFindsSaid : Prop := wordsFindsRow.holds Try.pinned (OpenSpec.ofChange wordsFindsSpec)

/-- ITS FALSE NEIGHBOUR: 'it returns false'. Refute it at one input. -/
def wordsFindsWrong : ChangeSpec := { name := "wordsFinds", fn := fun _ => fun
  | [d] => { results := [.lit (.bool false)], args := [d] }
  | _ => none }
def WordsFindsWrongFalsely : Prop := wordsFindsRow.holds Try.pinned (OpenSpec.ofChange wordsFindsWrong)

/-- 'firkinlaw15.WordsOne': WHATEVER THE INPUT: true; the input reads as it did. -/
def wordsOneSpec : ChangeSpec := { name := "wordsOne", fn := fun _ => fun
  | [d] => { results := [.lit (.bool true)], args := [d] }
  | _ => none }
def wordsOneRow : OpenClaim := { program := "ytnkiopfpcddliaa", sum := "0b0417d181797dbc008d7c389f98b64f02da29674012137b879d83509cb041b9", func := "firkin/firkinlaw15.WordsOne", spec := "wordsOne", unfollowed := true, recurses := true, apart := false }
def WordsOneSaid : Prop := wordsOneRow.holds Try.pinned (OpenSpec.ofChange wordsOneSpec)

/-- ITS FALSE NEIGHBOUR: 'it returns false'. Refute it at one input. -/
def wordsOneWrong : ChangeSpec := { name := "wordsOne", fn := fun _ => fun
  | [d] => { results := [.lit (.bool false)], args := [d] }
  | _ => none }
def WordsOneWrongFalsely : Prop := wordsOneRow.holds Try.pinned (OpenSpec.ofChange wordsOneWrong)

/-- 'firkinlaw15.WordsTerms': WHATEVER THE INPUT: true; the input reads as it did. -/
def wordsTermsSpec : ChangeSpec := { name := "wordsTerms", fn := fun _ => fun
  | [d] => { results := [.lit (.bool true)], args := [d] }
  | _ => none }
def wordsTermsRow : OpenClaim := { program := "ytnkiopfpcddliaa", sum := "0b0417d181797dbc008d7c389f98b64f02da29674012137b879d83509cb041b9", func := "firkin/firkinlaw15.WordsTerms", spec := "wordsTerms", unfollowed := true, recurses := true, apart := false }
def WordsTermsSaid : Prop := wordsTermsRow.holds Try.pinned (OpenSpec.ofChange wordsTermsSpec)

/-- ITS FALSE NEIGHBOUR: 'it returns false'. Refute it at one input. -/
def wordsTermsWrong : ChangeSpec := { name := "wordsTerms", fn := fun _ => fun
  | [d] => { results := [.lit (.bool false)], args := [d] }
  | _ => none }
def WordsTermsWrongFalsely : Prop := wordsTermsRow.holds Try.pinned (OpenSpec.ofChange wordsTermsWrong)

/-- 'firkinlaw15.WordsEach': WHATEVER THE INPUT: true; the input reads as it did. -/
def wordsEachSpec : ChangeSpec := { name := "wordsEach", fn := fun _ => fun
  | [d1, d2] => { results := [.lit (.bool true)], args := [d1, d2] }
  | _ => none }
def wordsEachRow : OpenClaim := { program := "ytnkiopfpcddliaa", sum := "0b0417d181797dbc008d7c389f98b64f02da29674012137b879d83509cb041b9", func := "firkin/firkinlaw15.WordsEach", spec := "wordsEach", unfollowed := true, recurses := true, apart := false }
def WordsEachSaid : Prop := wordsEachRow.holds Try.pinned (OpenSpec.ofChange wordsEachSpec)

/-- ITS FALSE NEIGHBOUR: 'it returns false'. Refute it at one input. -/
def wordsEachWrong : ChangeSpec := { name := "wordsEach", fn := fun _ => fun
  | [d1, d2] => { results := [.lit (.bool false)], args := [d1, d2] }
  | _ => none }
def WordsEachWrongFalsely : Prop := wordsEachRow.holds Try.pinned (OpenSpec.ofChange wordsEachWrong)

/-- 'firkinlaw15.WordsCase': WHATEVER THE INPUT: true; the input reads as it did. -/
def wordsCaseSpec : ChangeSpec := { name := "wordsCase", fn := fun _ => fun
  | [d1, d2] => { results := [.lit (.bool true)], args := [d1, d2] }
  | _ => none }
def wordsCaseRow : OpenClaim := { program := "ytnkiopfpcddliaa", sum := "0b0417d181797dbc008d7c389f98b64f02da29674012137b879d83509cb041b9", func := "firkin/firkinlaw15.WordsCase", spec := "wordsCase", unfollowed := true, recurses := true, apart := false }
def WordsCaseSaid : Prop := wordsCaseRow.holds Try.pinned (OpenSpec.ofChange wordsCaseSpec)

/-- ITS FALSE NEIGHBOUR: 'it returns false'. Refute it at one input. -/
def wordsCaseWrong : ChangeSpec := { name := "wordsCase", fn := fun _ => fun
  | [d1, d2] => { results := [.lit (.bool false)], args := [d1, d2] }
  | _ => none }
def WordsCaseWrongFalsely : Prop := wordsCaseRow.holds Try.pinned (OpenSpec.ofChange wordsCaseWrong)

/-- 'firkinlaw15.WordsJoin': WHATEVER THE INPUT: true; the input reads as it did. -/
def wordsJoinSpec : ChangeSpec := { name := "wordsJoin", fn := fun _ => fun
  | [d1, d2, d3] => { results := [.lit (.bool true)], args := [d1, d2, d3] }
  | _ => none }
def wordsJoinRow : OpenClaim := { program := "ytnkiopfpcddliaa", sum := "0b0417d181797dbc008d7c389f98b64f02da29674012137b879d83509cb041b9", func := "firkin/firkinlaw15.WordsJoin", spec := "wordsJoin", unfollowed := true, recurses := true, apart := false }
def WordsJoinSaid : Prop := wordsJoinRow.holds Try.pinned (OpenSpec.ofChange wordsJoinSpec)

/-- ITS FALSE NEIGHBOUR: 'it returns false'. Refute it at one input. -/
def wordsJoinWrong : ChangeSpec := { name := "wordsJoin", fn := fun _ => fun
  | [d1, d2, d3] => { results := [.lit (.bool false)], args := [d1, d2, d3] }
  | _ => none }
def WordsJoinWrongFalsely : Prop := wordsJoinRow.holds Try.pinned (OpenSpec.ofChange wordsJoinWrong)

/-- 'firkinlaw15.WordsHas': WHATEVER THE INPUT: true; the input reads as it did. -/
def wordsHasSpec : ChangeSpec := { name := "wordsHas", fn := fun _ => fun
  | [d1, d2] => { results := [.lit (.bool true)], args := [d1, d2] }
  | _ => none }
def wordsHasRow : OpenClaim := { program := "ytnkiopfpcddliaa", sum := "0b0417d181797dbc008d7c389f98b64f02da29674012137b879d83509cb041b9", func := "firkin/firkinlaw15.WordsHas", spec := "wordsHas", unfollowed := true, recurses := true, apart := false }
def WordsHasSaid : Prop := wordsHasRow.holds Try.pinned (OpenSpec.ofChange wordsHasSpec)

/-- ITS FALSE NEIGHBOUR: 'it returns false'. Refute it at one input. -/
def wordsHasWrong : ChangeSpec := { name := "wordsHas", fn := fun _ => fun
  | [d1, d2] => { results := [.lit (.bool false)], args := [d1, d2] }
  | _ => none }
def WordsHasWrongFalsely : Prop := wordsHasRow.holds Try.pinned (OpenSpec.ofChange wordsHasWrong)

/- THE SECOND FORM. 'bulk': how many values and letters a reading holds, each counted each time it is reached (what is shared counts as often as it is met; a slice's spare places count too). A statement '..UptoSaid' is the law's where the arguments, and the package variables that the reading takes, are together of bulk at most 1048576: NARROWER than '..Said'. Prove '..Said' where nothing that the law and all that it calls make is longer than what came in: it says more and counts as full. Else prove '..UptoSaid'. A law counts once. -/
mutual
def uptoBulk {H : Type} : DataW H → Nat
  | .lit (.string bytes) => bytes.length + 1
  | .lit _ => 1
  | .nil => 1
  | .ptr d => uptoBulk d + 1
  | .slice elems spare => uptoBulkAll elems + uptoBulkAll spare + 1
  | .agg parts => uptoBulkAll parts + 1
  | .iface _ d => uptoBulk d + 1
  | .map entries => uptoBulkEntries entries + 1
  | .held _ => 1
def uptoBulkAll {H : Type} : List (DataW H) → Nat
  | [] => 0
  | d :: r => uptoBulk d + uptoBulkAll r
def uptoBulkEntries {H : Type} : List (Lit × DataW H) → Nat
  | [] => 0
  | x :: r => uptoBulkEntry x + uptoBulkEntries r
def uptoBulkEntry {H : Type} : Lit × DataW H → Nat
  | (.string bytes, d) => bytes.length + uptoBulk d + 1
  | (_, d) => uptoBulk d + 1
 end
def uptoSmall : (H : Type) → List (DataW H) → Bool := fun _ ds => decide (uptoBulkAll ds ≤ 1048576)
def OpenSpec.upto (s : _root_.Go.ChangeSpec) : _root_.Go.OpenSpec := { _root_.Go.OpenSpec.ofChange s with cond := some uptoSmall }

/-- 'firkinlaw15.WordsFinds', WHERE WHAT IT READS IS OF BULK AT MOST 1048576: true; the input reads as it did. -/
def wordsFindsUptoRow : OpenClaim := { program := "ytnkiopfpcddliaa", sum := "0b0417d181797dbc008d7c389f98b64f02da29674012137b879d83509cb041b9", func := "firkin/firkinlaw15.WordsFinds", spec := "wordsFinds", unfollowed := true, recurses := true, apart := false, narrowed := true }
def WordsFindsUptoSaid : Prop := wordsFindsUptoRow.holds Try.pinned (OpenSpec.upto wordsFindsSpec)

/-- 'firkinlaw15.WordsOne', WHERE WHAT IT READS IS OF BULK AT MOST 1048576: true; the input reads as it did. -/
def wordsOneUptoRow : OpenClaim := { program := "ytnkiopfpcddliaa", sum := "0b0417d181797dbc008d7c389f98b64f02da29674012137b879d83509cb041b9", func := "firkin/firkinlaw15.WordsOne", spec := "wordsOne", unfollowed := true, recurses := true, apart := false, narrowed := true }
def WordsOneUptoSaid : Prop := wordsOneUptoRow.holds Try.pinned (OpenSpec.upto wordsOneSpec)

/-- 'firkinlaw15.WordsTerms', WHERE WHAT IT READS IS OF BULK AT MOST 1048576: true; the input reads as it did. -/
def wordsTermsUptoRow : OpenClaim := { program := "ytnkiopfpcddliaa", sum := "0b0417d181797dbc008d7c389f98b64f02da29674012137b879d83509cb041b9", func := "firkin/firkinlaw15.WordsTerms", spec := "wordsTerms", unfollowed := true, recurses := true, apart := false, narrowed := true }
def WordsTermsUptoSaid : Prop := wordsTermsUptoRow.holds Try.pinned (OpenSpec.upto wordsTermsSpec)

/-- 'firkinlaw15.WordsEach', WHERE WHAT IT READS IS OF BULK AT MOST 1048576: true; the input reads as it did. -/
def wordsEachUptoRow : OpenClaim := { program := "ytnkiopfpcddliaa", sum := "0b0417d181797dbc008d7c389f98b64f02da29674012137b879d83509cb041b9", func := "firkin/firkinlaw15.WordsEach", spec := "wordsEach", unfollowed := true, recurses := true, apart := false, narrowed := true }
def WordsEachUptoSaid : Prop := wordsEachUptoRow.holds Try.pinned (OpenSpec.upto wordsEachSpec)

/-- 'firkinlaw15.WordsCase', WHERE WHAT IT READS IS OF BULK AT MOST 1048576: true; the input reads as it did. -/
def wordsCaseUptoRow : OpenClaim := { program := "ytnkiopfpcddliaa", sum := "0b0417d181797dbc008d7c389f98b64f02da29674012137b879d83509cb041b9", func := "firkin/firkinlaw15.WordsCase", spec := "wordsCase", unfollowed := true, recurses := true, apart := false, narrowed := true }
def WordsCaseUptoSaid : Prop := wordsCaseUptoRow.holds Try.pinned (OpenSpec.upto wordsCaseSpec)

/-- 'firkinlaw15.WordsJoin', WHERE WHAT IT READS IS OF BULK AT MOST 1048576: true; the input reads as it did. -/
def wordsJoinUptoRow : OpenClaim := { program := "ytnkiopfpcddliaa", sum := "0b0417d181797dbc008d7c389f98b64f02da29674012137b879d83509cb041b9", func := "firkin/firkinlaw15.WordsJoin", spec := "wordsJoin", unfollowed := true, recurses := true, apart := false, narrowed := true }
def WordsJoinUptoSaid : Prop := wordsJoinUptoRow.holds Try.pinned (OpenSpec.upto wordsJoinSpec)

/-- 'firkinlaw15.WordsHas', WHERE WHAT IT READS IS OF BULK AT MOST 1048576: true; the input reads as it did. -/
def wordsHasUptoRow : OpenClaim := { program := "ytnkiopfpcddliaa", sum := "0b0417d181797dbc008d7c389f98b64f02da29674012137b879d83509cb041b9", func := "firkin/firkinlaw15.WordsHas", spec := "wordsHas", unfollowed := true, recurses := true, apart := false, narrowed := true }
def WordsHasUptoSaid : Prop := wordsHasUptoRow.holds Try.pinned (OpenSpec.upto wordsHasSpec)

end Rows
end Go.Proofs.Ytnkiopfpcddliaa
