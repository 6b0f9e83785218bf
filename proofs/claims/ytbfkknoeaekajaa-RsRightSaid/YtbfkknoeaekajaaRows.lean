/-
  No cell of these rows narrows 'for every input' (looked for: loops, veiled, ifaces, maps, wideKeys, modest, calm, conditions, laid).
  DERIVED. THE GIVEN ROWS OF THIS SEAT. 12 by the template 'for every input the law returns true; each argument reads behind the call as it read before'; 0 by the template 'total and deterministic' (their statements: YtbfkknoeaekajaaTotals.lean).
  GIVEN WITH THE SEED: the statements are not yours to turn. If you find one false, say at which input.
  Laid BY PROGRAM, IN A SANDBOX (cutbox-rows.mjs): the forced cells as the released guide's own fill.sh prints them over the translation 4af2a869bb823ca9… (all of the seat's roots in one cut). By AI agents, Wed Nov 11 2026. No macro, syntax, notation, axiom, sorry.
-/
import Derived.Test.YtbfkknoeaekajaaChecked
import GoSem.Claim
import GoSem.ClaimJoined
import GoSem.ClaimMapViews
import Derived.JoinedTies
import Derived.KernelRfl
namespace Go.Proofs.Ytbfkknoeaekajaa
/- THE CELL 'sum', in the pinned program and in every row, IS THE sha256 OF THE DUMP (.gsa) THAT YtbfkknoeaekajaaProg.lean LOADS. Nothing in Lean hashes anything: it is a label: what it is worth is what the hold of that sum in a sandbox is worth. -/
noncomputable def Try.pinned : Pinned := { name := "ytbfkknoeaekajaa", sum := "4af2a869bb823ca95d6036db35d487b0156e029d7ecca9532705420725fe27e9", checked := Try.checked }
namespace Rows
def none {H : Type} : Left H := { results := [], args := [] }

/-- 'firkinlaw06.RsParity': WHATEVER THE INPUT: true; the input reads as it did. -/
def rsParitySpec : ChangeSpec := { name := "rsParity", fn := fun _ => fun
  | [d1, d2] => { results := [.lit (.bool true)], args := [d1, d2] }
  | _ => none }
def rsParityRow : OpenClaim := { program := "ytbfkknoeaekajaa", sum := "4af2a869bb823ca95d6036db35d487b0156e029d7ecca9532705420725fe27e9", func := "firkin/firkinlaw06.RsParity", spec := "rsParity", apart := false }
def RsParitySaid : Prop := rsParityRow.holds Try.pinned (OpenSpec.ofChange rsParitySpec)

/-- ITS FALSE NEIGHBOUR: 'it returns false'. Refute it at one input. -/
def rsParityWrong : ChangeSpec := { name := "rsParity", fn := fun _ => fun
  | [d1, d2] => { results := [.lit (.bool false)], args := [d1, d2] }
  | _ => none }
def RsParityWrongFalsely : Prop := rsParityRow.holds Try.pinned (OpenSpec.ofChange rsParityWrong)

/-- 'firkinlaw06.RsMends': WHATEVER THE INPUT: true; the input reads as it did. -/
def rsMendsSpec : ChangeSpec := { name := "rsMends", fn := fun _ => fun
  | [d1, d2, d3, d4] => { results := [.lit (.bool true)], args := [d1, d2, d3, d4] }
  | _ => none }
def rsMendsRow : OpenClaim := { program := "ytbfkknoeaekajaa", sum := "4af2a869bb823ca95d6036db35d487b0156e029d7ecca9532705420725fe27e9", func := "firkin/firkinlaw06.RsMends", spec := "rsMends", apart := false }
def RsMendsSaid : Prop := rsMendsRow.holds Try.pinned (OpenSpec.ofChange rsMendsSpec)

/-- ITS FALSE NEIGHBOUR: 'it returns false'. Refute it at one input. -/
def rsMendsWrong : ChangeSpec := { name := "rsMends", fn := fun _ => fun
  | [d1, d2, d3, d4] => { results := [.lit (.bool false)], args := [d1, d2, d3, d4] }
  | _ => none }
def RsMendsWrongFalsely : Prop := rsMendsRow.holds Try.pinned (OpenSpec.ofChange rsMendsWrong)

/-- 'firkinlaw06.RsBack': WHATEVER THE INPUT: true; the input reads as it did. -/
def rsBackSpec : ChangeSpec := { name := "rsBack", fn := fun _ => fun
  | [d1, d2, d3, d4] => { results := [.lit (.bool true)], args := [d1, d2, d3, d4] }
  | _ => none }
def rsBackRow : OpenClaim := { program := "ytbfkknoeaekajaa", sum := "4af2a869bb823ca95d6036db35d487b0156e029d7ecca9532705420725fe27e9", func := "firkin/firkinlaw06.RsBack", spec := "rsBack", unfollowed := true, recurses := true, apart := false }
def RsBackSaid : Prop := rsBackRow.holds Try.pinned (OpenSpec.ofChange rsBackSpec)

/-- ITS FALSE NEIGHBOUR: 'it returns false'. Refute it at one input. -/
def rsBackWrong : ChangeSpec := { name := "rsBack", fn := fun _ => fun
  | [d1, d2, d3, d4] => { results := [.lit (.bool false)], args := [d1, d2, d3, d4] }
  | _ => none }
def RsBackWrongFalsely : Prop := rsBackRow.holds Try.pinned (OpenSpec.ofChange rsBackWrong)

/-- 'firkinlaw06.RsFew': WHATEVER THE INPUT: true; the input reads as it did. -/
def rsFewSpec : ChangeSpec := { name := "rsFew", fn := fun _ => fun
  | [d1, d2, d3, d4] => { results := [.lit (.bool true)], args := [d1, d2, d3, d4] }
  | _ => none }
def rsFewRow : OpenClaim := { program := "ytbfkknoeaekajaa", sum := "4af2a869bb823ca95d6036db35d487b0156e029d7ecca9532705420725fe27e9", func := "firkin/firkinlaw06.RsFew", spec := "rsFew", unfollowed := true, recurses := true, apart := false }
def RsFewSaid : Prop := rsFewRow.holds Try.pinned (OpenSpec.ofChange rsFewSpec)

/-- ITS FALSE NEIGHBOUR: 'it returns false'. Refute it at one input. -/
def rsFewWrong : ChangeSpec := { name := "rsFew", fn := fun _ => fun
  | [d1, d2, d3, d4] => { results := [.lit (.bool false)], args := [d1, d2, d3, d4] }
  | _ => none }
def RsFewWrongFalsely : Prop := rsFewRow.holds Try.pinned (OpenSpec.ofChange rsFewWrong)

/-- 'firkinlaw06.RsRight': WHATEVER THE INPUT: true; the input reads as it did. -/
def rsRightSpec : ChangeSpec := { name := "rsRight", fn := fun _ => fun
  | [d1, d2, d3] => { results := [.lit (.bool true)], args := [d1, d2, d3] }
  | _ => none }
def rsRightRow : OpenClaim := { program := "ytbfkknoeaekajaa", sum := "4af2a869bb823ca95d6036db35d487b0156e029d7ecca9532705420725fe27e9", func := "firkin/firkinlaw06.RsRight", spec := "rsRight", unfollowed := true, recurses := true, apart := false }
def RsRightSaid : Prop := rsRightRow.holds Try.pinned (OpenSpec.ofChange rsRightSpec)

/-- ITS FALSE NEIGHBOUR: 'it returns false'. Refute it at one input. -/
def rsRightWrong : ChangeSpec := { name := "rsRight", fn := fun _ => fun
  | [d1, d2, d3] => { results := [.lit (.bool false)], args := [d1, d2, d3] }
  | _ => none }
def RsRightWrongFalsely : Prop := rsRightRow.holds Try.pinned (OpenSpec.ofChange rsRightWrong)

/-- 'firkinlaw06.RsXor': WHATEVER THE INPUT: true; the input reads as it did. -/
def rsXorSpec : ChangeSpec := { name := "rsXor", fn := fun _ => fun
  | [d1, d2, d3] => { results := [.lit (.bool true)], args := [d1, d2, d3] }
  | _ => none }
def rsXorRow : OpenClaim := { program := "ytbfkknoeaekajaa", sum := "4af2a869bb823ca95d6036db35d487b0156e029d7ecca9532705420725fe27e9", func := "firkin/firkinlaw06.RsXor", spec := "rsXor", apart := false }
def RsXorSaid : Prop := rsXorRow.holds Try.pinned (OpenSpec.ofChange rsXorSpec)

/-- ITS FALSE NEIGHBOUR: 'it returns false'. Refute it at one input. -/
def rsXorWrong : ChangeSpec := { name := "rsXor", fn := fun _ => fun
  | [d1, d2, d3] => { results := [.lit (.bool false)], args := [d1, d2, d3] }
  | _ => none }
def RsXorWrongFalsely : Prop := rsXorRow.holds Try.pinned (OpenSpec.ofChange rsXorWrong)

/-- 'firkinlaw05.MatMay': WHATEVER THE INPUT: true; the input reads as it did. -/
def matMaySpec : ChangeSpec := { name := "matMay", fn := fun _ => fun
  | [d] => { results := [.lit (.bool true)], args := [d] }
  | _ => none }
def matMayRow : OpenClaim := { program := "ytbfkknoeaekajaa", sum := "4af2a869bb823ca95d6036db35d487b0156e029d7ecca9532705420725fe27e9", func := "firkin/firkinlaw05.MatMay", spec := "matMay", apart := false }
def MatMaySaid : Prop := matMayRow.holds Try.pinned (OpenSpec.ofChange matMaySpec)

/-- ITS FALSE NEIGHBOUR: 'it returns false'. Refute it at one input. -/
def matMayWrong : ChangeSpec := { name := "matMay", fn := fun _ => fun
  | [d] => { results := [.lit (.bool false)], args := [d] }
  | _ => none }
def MatMayWrongFalsely : Prop := matMayRow.holds Try.pinned (OpenSpec.ofChange matMayWrong)

/-- 'firkinlaw05.MatMakes': WHATEVER THE INPUT: true; the input reads as it did. -/
def matMakesSpec : ChangeSpec := { name := "matMakes", fn := fun _ => fun
  | [d1, d2, d3] => { results := [.lit (.bool true)], args := [d1, d2, d3] }
  | _ => none }
def matMakesRow : OpenClaim := { program := "ytbfkknoeaekajaa", sum := "4af2a869bb823ca95d6036db35d487b0156e029d7ecca9532705420725fe27e9", func := "firkin/firkinlaw05.MatMakes", spec := "matMakes", apart := false }
def MatMakesSaid : Prop := matMakesRow.holds Try.pinned (OpenSpec.ofChange matMakesSpec)

/-- ITS FALSE NEIGHBOUR: 'it returns false'. Refute it at one input. -/
def matMakesWrong : ChangeSpec := { name := "matMakes", fn := fun _ => fun
  | [d1, d2, d3] => { results := [.lit (.bool false)], args := [d1, d2, d3] }
  | _ => none }
def MatMakesWrongFalsely : Prop := matMakesRow.holds Try.pinned (OpenSpec.ofChange matMakesWrong)

/-- 'firkinlaw05.MatStacks': WHATEVER THE INPUT: true; the input reads as it did. -/
def matStacksSpec : ChangeSpec := { name := "matStacks", fn := fun _ => fun
  | [d] => { results := [.lit (.bool true)], args := [d] }
  | _ => none }
def matStacksRow : OpenClaim := { program := "ytbfkknoeaekajaa", sum := "4af2a869bb823ca95d6036db35d487b0156e029d7ecca9532705420725fe27e9", func := "firkin/firkinlaw05.MatStacks", spec := "matStacks", apart := false }
def MatStacksSaid : Prop := matStacksRow.holds Try.pinned (OpenSpec.ofChange matStacksSpec)

/-- ITS FALSE NEIGHBOUR: 'it returns false'. Refute it at one input. -/
def matStacksWrong : ChangeSpec := { name := "matStacks", fn := fun _ => fun
  | [d] => { results := [.lit (.bool false)], args := [d] }
  | _ => none }
def MatStacksWrongFalsely : Prop := matStacksRow.holds Try.pinned (OpenSpec.ofChange matStacksWrong)

/-- 'firkinlaw05.MatPicks': WHATEVER THE INPUT: true; the input reads as it did. -/
def matPicksSpec : ChangeSpec := { name := "matPicks", fn := fun _ => fun
  | [d1, d2] => { results := [.lit (.bool true)], args := [d1, d2] }
  | _ => none }
def matPicksRow : OpenClaim := { program := "ytbfkknoeaekajaa", sum := "4af2a869bb823ca95d6036db35d487b0156e029d7ecca9532705420725fe27e9", func := "firkin/firkinlaw05.MatPicks", spec := "matPicks", apart := false }
def MatPicksSaid : Prop := matPicksRow.holds Try.pinned (OpenSpec.ofChange matPicksSpec)

/-- ITS FALSE NEIGHBOUR: 'it returns false'. Refute it at one input. -/
def matPicksWrong : ChangeSpec := { name := "matPicks", fn := fun _ => fun
  | [d1, d2] => { results := [.lit (.bool false)], args := [d1, d2] }
  | _ => none }
def MatPicksWrongFalsely : Prop := matPicksRow.holds Try.pinned (OpenSpec.ofChange matPicksWrong)

/-- 'firkinlaw05.MatMuls': WHATEVER THE INPUT: true; the input reads as it did. -/
def matMulsSpec : ChangeSpec := { name := "matMuls", fn := fun _ => fun
  | [d1, d2] => { results := [.lit (.bool true)], args := [d1, d2] }
  | _ => none }
def matMulsRow : OpenClaim := { program := "ytbfkknoeaekajaa", sum := "4af2a869bb823ca95d6036db35d487b0156e029d7ecca9532705420725fe27e9", func := "firkin/firkinlaw05.MatMuls", spec := "matMuls", apart := false }
def MatMulsSaid : Prop := matMulsRow.holds Try.pinned (OpenSpec.ofChange matMulsSpec)

/-- ITS FALSE NEIGHBOUR: 'it returns false'. Refute it at one input. -/
def matMulsWrong : ChangeSpec := { name := "matMuls", fn := fun _ => fun
  | [d1, d2] => { results := [.lit (.bool false)], args := [d1, d2] }
  | _ => none }
def MatMulsWrongFalsely : Prop := matMulsRow.holds Try.pinned (OpenSpec.ofChange matMulsWrong)

/-- 'firkinlaw05.MatBrackets': WHATEVER THE INPUT: true; the input reads as it did. -/
def matBracketsSpec : ChangeSpec := { name := "matBrackets", fn := fun _ => fun
  | [d1, d2, d3] => { results := [.lit (.bool true)], args := [d1, d2, d3] }
  | _ => none }
def matBracketsRow : OpenClaim := { program := "ytbfkknoeaekajaa", sum := "4af2a869bb823ca95d6036db35d487b0156e029d7ecca9532705420725fe27e9", func := "firkin/firkinlaw05.MatBrackets", spec := "matBrackets", apart := false }
def MatBracketsSaid : Prop := matBracketsRow.holds Try.pinned (OpenSpec.ofChange matBracketsSpec)

/-- ITS FALSE NEIGHBOUR: 'it returns false'. Refute it at one input. -/
def matBracketsWrong : ChangeSpec := { name := "matBrackets", fn := fun _ => fun
  | [d1, d2, d3] => { results := [.lit (.bool false)], args := [d1, d2, d3] }
  | _ => none }
def MatBracketsWrongFalsely : Prop := matBracketsRow.holds Try.pinned (OpenSpec.ofChange matBracketsWrong)

/- THE SECOND FORM. 'bulk': how many values and letters a reading holds, each counted each time it is reached (what is shared counts as often as it is met; a slice's spare places count too). A statement '..UptoSaid' is the law's where the arguments, and the package variables that the reading takes, are together of bulk at most 1048576: NARROWER than '..Said'. Prove '..Said' where nothing that the law and all that it calls make is longer than what came in: it says more and counts as full. Else prove '..UptoSaid'. A law counts once. -/
mutual
def uptoBulk {H : Type} : DataW H → Nat
  | .lit (.string bytes) => bytes.length + 1
  | .lit _ => 1
  | .nil => 1
  | .ptr d => uptoBulk d + 1
  | .slice elems spare => uptoBulkAll elems + uptoBulkAll spare + 1
  | .agg parts => uptoBulkAll parts + 1
  | .iface _ d => uptoBulk d + 1
  | .map entries => uptoBulkEntries entries + 1
  | .held _ => 1
def uptoBulkAll {H : Type} : List (DataW H) → Nat
  | [] => 0
  | d :: r => uptoBulk d + uptoBulkAll r
def uptoBulkEntries {H : Type} : List (Lit × DataW H) → Nat
  | [] => 0
  | x :: r => uptoBulkEntry x + uptoBulkEntries r
def uptoBulkEntry {H : Type} : Lit × DataW H → Nat
  | (.string bytes, d) => bytes.length + uptoBulk d + 1
  | (_, d) => uptoBulk d + 1
 end
def uptoSmall : (H : Type) → List (DataW H) → Bool := fun _ ds => decide (uptoBulkAll ds ≤ 1048576)
def OpenSpec.upto (s : _root_.Go.ChangeSpec) : _root_.Go.OpenSpec := { _root_.Go.OpenSpec.ofChange s with cond := some uptoSmall }

/-- 'firkinlaw06.RsParity', WHERE WHAT IT READS IS OF BULK AT MOST 1048576: true; the input reads as it did. -/
def rsParityUptoRow : OpenClaim := { program := "ytbfkknoeaekajaa", sum := "4af2a869bb823ca95d6036db35d487b0156e029d7ecca9532705420725fe27e9", func := "firkin/firkinlaw06.RsParity", spec := "rsParity", apart := false, narrowed := true }
def RsParityUptoSaid : Prop := rsParityUptoRow.holds Try.pinned (OpenSpec.upto rsParitySpec)

/-- 'firkinlaw06.RsMends', WHERE WHAT IT READS IS OF BULK AT MOST 1048576: true; the input reads as it did. -/
def rsMendsUptoRow : OpenClaim := { program := "ytbfkknoeaekajaa", sum := "4af2a869bb823ca95d6036db35d487b0156e029d7ecca9532705420725fe27e9", func := "firkin/firkinlaw06.RsMends", spec := "rsMends", apart := false, narrowed := true }
def RsMendsUptoSaid : Prop := rsMendsUptoRow.holds Try.pinned (OpenSpec.upto rsMendsSpec)

/-- 'firkinlaw06.RsBack', WHERE WHAT IT READS IS OF BULK AT MOST 1048576: true; the input reads as it did. -/
def rsBackUptoRow : OpenClaim := { program := "ytbfkknoeaekajaa", sum := "4af2a869bb823ca95d6036db35d487b0156e029d7ecca9532705420725fe27e9", func := "firkin/firkinlaw06.RsBack", spec := "rsBack", unfollowed := true, recurses := true, apart := false, narrowed := true }
def RsBackUptoSaid : Prop := rsBackUptoRow.holds Try.pinned (OpenSpec.upto rsBackSpec)

/-- 'firkinlaw06.RsFew', WHERE WHAT IT READS IS OF BULK AT MOST 1048576: true; the input reads as it did. -/
def rsFewUptoRow : OpenClaim := { program := "ytbfkknoeaekajaa", sum := "4af2a869bb823ca95d6036db35d487b0156e029d7ecca9532705420725fe27e9", func := "firkin/firkinlaw06.RsFew", spec := "rsFew", unfollowed := true, recurses := true, apart := false, narrowed := true }
def RsFewUptoSaid : Prop := rsFewUptoRow.holds Try.pinned (OpenSpec.upto rsFewSpec)

/-- 'firkinlaw06.RsRight', WHERE WHAT IT READS IS OF BULK AT MOST 1048576: true; the input reads as it did. -/
def rsRightUptoRow : OpenClaim := { program := "ytbfkknoeaekajaa", sum := "4af2a869bb823ca95d6036db35d487b0156e029d7ecca9532705420725fe27e9", func := "firkin/firkinlaw06.RsRight", spec := "rsRight", unfollowed := true, recurses := true, apart := false, narrowed := true }
def RsRightUptoSaid : Prop := rsRightUptoRow.holds Try.pinned (OpenSpec.upto rsRightSpec)

/-- 'firkinlaw06.RsXor', WHERE WHAT IT READS IS OF BULK AT MOST 1048576: true; the input reads as it did. -/
def rsXorUptoRow : OpenClaim := { program := "ytbfkknoeaekajaa", sum := "4af2a869bb823ca95d6036db35d487b0156e029d7ecca9532705420725fe27e9", func := "firkin/firkinlaw06.RsXor", spec := "rsXor", apart := false, narrowed := true }
def RsXorUptoSaid : Prop := rsXorUptoRow.holds Try.pinned (OpenSpec.upto rsXorSpec)

/-- 'firkinlaw05.MatMay', WHERE WHAT IT READS IS OF BULK AT MOST 1048576: true; the input reads as it did. -/
def matMayUptoRow : OpenClaim := { program := "ytbfkknoeaekajaa", sum := "4af2a869bb823ca95d6036db35d487b0156e029d7ecca9532705420725fe27e9", func := "firkin/firkinlaw05.MatMay", spec := "matMay", apart := false, narrowed := true }
def MatMayUptoSaid : Prop := matMayUptoRow.holds Try.pinned (OpenSpec.upto matMaySpec)

/-- 'firkinlaw05.MatMakes', WHERE WHAT IT READS IS OF BULK AT MOST 1048576: true; the input reads as it did. -/
def matMakesUptoRow : OpenClaim := { program := "ytbfkknoeaekajaa", sum := "4af2a869bb823ca95d6036db35d487b0156e029d7ecca9532705420725fe27e9", func := "firkin/firkinlaw05.MatMakes", spec := "matMakes", apart := false, narrowed := true }
def MatMakesUptoSaid : Prop := matMakesUptoRow.holds Try.pinned (OpenSpec.upto matMakesSpec)

/-- 'firkinlaw05.MatStacks', WHERE WHAT IT READS IS OF BULK AT MOST 1048576: true; the input reads as it did. -/
def matStacksUptoRow : OpenClaim := { program := "ytbfkknoeaekajaa", sum := "4af2a869bb823ca95d6036db35d487b0156e029d7ecca9532705420725fe27e9", func := "firkin/firkinlaw05.MatStacks", spec := "matStacks", apart := false, narrowed := true }
def MatStacksUptoSaid : Prop := matStacksUptoRow.holds Try.pinned (OpenSpec.upto matStacksSpec)

/-- 'firkinlaw05.MatPicks', WHERE WHAT IT READS IS OF BULK AT MOST 1048576: true; the input reads as it did. -/
def matPicksUptoRow : OpenClaim := { program := "ytbfkknoeaekajaa", sum := "4af2a869bb823ca95d6036db35d487b0156e029d7ecca9532705420725fe27e9", func := "firkin/firkinlaw05.MatPicks", spec := "matPicks", apart := false, narrowed := true }
def MatPicksUptoSaid : Prop := matPicksUptoRow.holds Try.pinned (OpenSpec.upto matPicksSpec)

/-- 'firkinlaw05.MatMuls', WHERE WHAT IT READS IS OF BULK AT MOST 1048576: true; the input reads as it did. -/
def matMulsUptoRow : OpenClaim := { program := "ytbfkknoeaekajaa", sum := "4af2a869bb823ca95d6036db35d487b0156e029d7ecca9532705420725fe27e9", func := "firkin/firkinlaw05.MatMuls", spec := "matMuls", apart := false, narrowed := true }
def MatMulsUptoSaid : Prop := matMulsUptoRow.holds Try.pinned (OpenSpec.upto matMulsSpec)

/-- 'firkinlaw05.MatBrackets', WHERE WHAT IT READS IS OF BULK AT MOST 1048576: true; the input reads as it did. -/
def matBracketsUptoRow : OpenClaim := { program := "ytbfkknoeaekajaa", sum := "4af2a869bb823ca95d6036db35d487b0156e029d7ecca9532705420725fe27e9", func := "firkin/firkinlaw05.MatBrackets", spec := "matBrackets", apart := false, narrowed := true }
def MatBracketsUptoSaid : Prop := matBracketsUptoRow.holds Try.pinned (OpenSpec.upto matBracketsSpec)

end Rows
end Go.Proofs.Ytbfkknoeaekajaa
