/-
  No cell of these rows narrows 'for every input' (looked for: loops, veiled, ifaces, maps, wideKeys, modest, calm, conditions, laid).
  DERIVED. THE GIVEN ROWS OF THIS SEAT. 9 by the template 'for every input the law returns true; each argument reads behind the call as it read before'; 0 by the template 'total and deterministic' (their statements: YtlelcapbpkccjaaTotals.lean).
  GIVEN WITH THE SEED: the statements are not yours to turn. If you find one false, say at which input.
  Laid BY PROGRAM, IN A SANDBOX (cutbox-rows.mjs): the forced cells as the released guide's own fill.sh prints them over the translation 5674d7937d2cff58… (all of the seat's roots in one cut). By AI agents, Wed Nov 11 2026. No macro, syntax, notation, axiom, sorry.
-/
import Derived.Test.YtlelcapbpkccjaaChecked
import GoSem.Claim
import GoSem.ClaimJoined
import GoSem.ClaimMapViews
import Derived.JoinedTies
import Derived.KernelRfl
namespace Go.Proofs.Ytlelcapbpkccjaa
/- THE CELL 'sum', in the pinned program and in every row, IS THE sha256 OF THE DUMP (.gsa) THAT YtlelcapbpkccjaaProg.lean LOADS. Nothing in Lean hashes anything: it is a label: what it is worth is what the hold of that sum in a sandbox is worth. -/
noncomputable def Try.pinned : Pinned := { name := "ytlelcapbpkccjaa", sum := "5674d7937d2cff58b2e63fe1c61b800a7ea68e3ab7e4fe14c5ee8eaddf797413", checked := Try.checked }
namespace Rows
def none {H : Type} : Left H := { results := [], args := [] }

/-- 'firkinlaw04.GfMuls': WHATEVER THE INPUT: true; the input reads as it did. -/
def gfMulsSpec : ChangeSpec := { name := "gfMuls", fn := fun _ => fun
  | [d1, d2] => { results := [.lit (.bool true)], args := [d1, d2] }
  | _ => none }
def gfMulsRow : OpenClaim := { program := "ytlelcapbpkccjaa", sum := "5674d7937d2cff58b2e63fe1c61b800a7ea68e3ab7e4fe14c5ee8eaddf797413", func := "firkin/firkinlaw04.GfMuls", spec := "gfMuls", apart := false }
def GfMulsSaid : Prop := gfMulsRow.holds Try.pinned (OpenSpec.ofChange gfMulsSpec)

/-- ITS FALSE NEIGHBOUR: 'it returns false'. Refute it at one input. -/
def gfMulsWrong : ChangeSpec := { name := "gfMuls", fn := fun _ => fun
  | [d1, d2] => { results := [.lit (.bool false)], args := [d1, d2] }
  | _ => none }
def GfMulsWrongFalsely : Prop := gfMulsRow.holds Try.pinned (OpenSpec.ofChange gfMulsWrong)

/-- 'firkinlaw04.GfField': WHATEVER THE INPUT: true; the input reads as it did. -/
def gfFieldSpec : ChangeSpec := { name := "gfField", fn := fun _ => fun
  | [d1, d2, d3] => { results := [.lit (.bool true)], args := [d1, d2, d3] }
  | _ => none }
def gfFieldRow : OpenClaim := { program := "ytlelcapbpkccjaa", sum := "5674d7937d2cff58b2e63fe1c61b800a7ea68e3ab7e4fe14c5ee8eaddf797413", func := "firkin/firkinlaw04.GfField", spec := "gfField", apart := false }
def GfFieldSaid : Prop := gfFieldRow.holds Try.pinned (OpenSpec.ofChange gfFieldSpec)

/-- ITS FALSE NEIGHBOUR: 'it returns false'. Refute it at one input. -/
def gfFieldWrong : ChangeSpec := { name := "gfField", fn := fun _ => fun
  | [d1, d2, d3] => { results := [.lit (.bool false)], args := [d1, d2, d3] }
  | _ => none }
def GfFieldWrongFalsely : Prop := gfFieldRow.holds Try.pinned (OpenSpec.ofChange gfFieldWrong)

/-- 'firkinlaw04.GfInverts': WHATEVER THE INPUT: true; the input reads as it did. -/
def gfInvertsSpec : ChangeSpec := { name := "gfInverts", fn := fun _ => fun
  | [d1, d2] => { results := [.lit (.bool true)], args := [d1, d2] }
  | _ => none }
def gfInvertsRow : OpenClaim := { program := "ytlelcapbpkccjaa", sum := "5674d7937d2cff58b2e63fe1c61b800a7ea68e3ab7e4fe14c5ee8eaddf797413", func := "firkin/firkinlaw04.GfInverts", spec := "gfInverts", apart := false }
def GfInvertsSaid : Prop := gfInvertsRow.holds Try.pinned (OpenSpec.ofChange gfInvertsSpec)

/-- ITS FALSE NEIGHBOUR: 'it returns false'. Refute it at one input. -/
def gfInvertsWrong : ChangeSpec := { name := "gfInverts", fn := fun _ => fun
  | [d1, d2] => { results := [.lit (.bool false)], args := [d1, d2] }
  | _ => none }
def GfInvertsWrongFalsely : Prop := gfInvertsRow.holds Try.pinned (OpenSpec.ofChange gfInvertsWrong)

/-- 'firkinlaw04.GfBack': WHATEVER THE INPUT: true; the input reads as it did. -/
def gfBackSpec : ChangeSpec := { name := "gfBack", fn := fun _ => fun
  | [d1, d2] => { results := [.lit (.bool true)], args := [d1, d2] }
  | _ => none }
def gfBackRow : OpenClaim := { program := "ytlelcapbpkccjaa", sum := "5674d7937d2cff58b2e63fe1c61b800a7ea68e3ab7e4fe14c5ee8eaddf797413", func := "firkin/firkinlaw04.GfBack", spec := "gfBack", apart := false }
def GfBackSaid : Prop := gfBackRow.holds Try.pinned (OpenSpec.ofChange gfBackSpec)

/-- ITS FALSE NEIGHBOUR: 'it returns false'. Refute it at one input. -/
def gfBackWrong : ChangeSpec := { name := "gfBack", fn := fun _ => fun
  | [d1, d2] => { results := [.lit (.bool false)], args := [d1, d2] }
  | _ => none }
def GfBackWrongFalsely : Prop := gfBackRow.holds Try.pinned (OpenSpec.ofChange gfBackWrong)

/-- 'firkinlaw04.GfPowers': WHATEVER THE INPUT: true; the input reads as it did. -/
def gfPowersSpec : ChangeSpec := { name := "gfPowers", fn := fun _ => fun
  | [d1, d2, d3, d4] => { results := [.lit (.bool true)], args := [d1, d2, d3, d4] }
  | _ => none }
def gfPowersRow : OpenClaim := { program := "ytlelcapbpkccjaa", sum := "5674d7937d2cff58b2e63fe1c61b800a7ea68e3ab7e4fe14c5ee8eaddf797413", func := "firkin/firkinlaw04.GfPowers", spec := "gfPowers", apart := false }
def GfPowersSaid : Prop := gfPowersRow.holds Try.pinned (OpenSpec.ofChange gfPowersSpec)

/-- ITS FALSE NEIGHBOUR: 'it returns false'. Refute it at one input. -/
def gfPowersWrong : ChangeSpec := { name := "gfPowers", fn := fun _ => fun
  | [d1, d2, d3, d4] => { results := [.lit (.bool false)], args := [d1, d2, d3, d4] }
  | _ => none }
def GfPowersWrongFalsely : Prop := gfPowersRow.holds Try.pinned (OpenSpec.ofChange gfPowersWrong)

/-- 'firkinlaw04.GfOrder': WHATEVER THE INPUT: true; the input reads as it did. -/
def gfOrderSpec : ChangeSpec := { name := "gfOrder", fn := fun _ => fun
  | [d1, d2] => { results := [.lit (.bool true)], args := [d1, d2] }
  | _ => none }
def gfOrderRow : OpenClaim := { program := "ytlelcapbpkccjaa", sum := "5674d7937d2cff58b2e63fe1c61b800a7ea68e3ab7e4fe14c5ee8eaddf797413", func := "firkin/firkinlaw04.GfOrder", spec := "gfOrder", apart := false }
def GfOrderSaid : Prop := gfOrderRow.holds Try.pinned (OpenSpec.ofChange gfOrderSpec)

/-- ITS FALSE NEIGHBOUR: 'it returns false'. Refute it at one input. -/
def gfOrderWrong : ChangeSpec := { name := "gfOrder", fn := fun _ => fun
  | [d1, d2] => { results := [.lit (.bool false)], args := [d1, d2] }
  | _ => none }
def GfOrderWrongFalsely : Prop := gfOrderRow.holds Try.pinned (OpenSpec.ofChange gfOrderWrong)

/-- 'firkinlaw04.GfRows': WHATEVER THE INPUT: true; the input reads as it did. -/
def gfRowsSpec : ChangeSpec := { name := "gfRows", fn := fun _ => fun
  | [d1, d2] => { results := [.lit (.bool true)], args := [d1, d2] }
  | _ => none }
def gfRowsRow : OpenClaim := { program := "ytlelcapbpkccjaa", sum := "5674d7937d2cff58b2e63fe1c61b800a7ea68e3ab7e4fe14c5ee8eaddf797413", func := "firkin/firkinlaw04.GfRows", spec := "gfRows", apart := false }
def GfRowsSaid : Prop := gfRowsRow.holds Try.pinned (OpenSpec.ofChange gfRowsSpec)

/-- ITS FALSE NEIGHBOUR: 'it returns false'. Refute it at one input. -/
def gfRowsWrong : ChangeSpec := { name := "gfRows", fn := fun _ => fun
  | [d1, d2] => { results := [.lit (.bool false)], args := [d1, d2] }
  | _ => none }
def GfRowsWrongFalsely : Prop := gfRowsRow.holds Try.pinned (OpenSpec.ofChange gfRowsWrong)

/-- 'firkinlaw04.GfAdds': WHATEVER THE INPUT: true; the input reads as it did. -/
def gfAddsSpec : ChangeSpec := { name := "gfAdds", fn := fun _ => fun
  | [d1, d2, d3] => { results := [.lit (.bool true)], args := [d1, d2, d3] }
  | _ => none }
def gfAddsRow : OpenClaim := { program := "ytlelcapbpkccjaa", sum := "5674d7937d2cff58b2e63fe1c61b800a7ea68e3ab7e4fe14c5ee8eaddf797413", func := "firkin/firkinlaw04.GfAdds", spec := "gfAdds", apart := false }
def GfAddsSaid : Prop := gfAddsRow.holds Try.pinned (OpenSpec.ofChange gfAddsSpec)

/-- ITS FALSE NEIGHBOUR: 'it returns false'. Refute it at one input. -/
def gfAddsWrong : ChangeSpec := { name := "gfAdds", fn := fun _ => fun
  | [d1, d2, d3] => { results := [.lit (.bool false)], args := [d1, d2, d3] }
  | _ => none }
def GfAddsWrongFalsely : Prop := gfAddsRow.holds Try.pinned (OpenSpec.ofChange gfAddsWrong)

/-- 'firkinlaw04.GfTwice': WHATEVER THE INPUT: true; the input reads as it did. -/
def gfTwiceSpec : ChangeSpec := { name := "gfTwice", fn := fun _ => fun
  | [d1, d2, d3, d4] => { results := [.lit (.bool true)], args := [d1, d2, d3, d4] }
  | _ => none }
def gfTwiceRow : OpenClaim := { program := "ytlelcapbpkccjaa", sum := "5674d7937d2cff58b2e63fe1c61b800a7ea68e3ab7e4fe14c5ee8eaddf797413", func := "firkin/firkinlaw04.GfTwice", spec := "gfTwice", apart := false }
def GfTwiceSaid : Prop := gfTwiceRow.holds Try.pinned (OpenSpec.ofChange gfTwiceSpec)

/-- ITS FALSE NEIGHBOUR: 'it returns false'. Refute it at one input. -/
def gfTwiceWrong : ChangeSpec := { name := "gfTwice", fn := fun _ => fun
  | [d1, d2, d3, d4] => { results := [.lit (.bool false)], args := [d1, d2, d3, d4] }
  | _ => none }
def GfTwiceWrongFalsely : Prop := gfTwiceRow.holds Try.pinned (OpenSpec.ofChange gfTwiceWrong)

/- THE SECOND FORM. 'bulk': how many values and letters a reading holds, each counted each time it is reached (what is shared counts as often as it is met; a slice's spare places count too). A statement '..UptoSaid' is the law's where the arguments, and the package variables that the reading takes, are together of bulk at most 1048576: NARROWER than '..Said'. Prove '..Said' where nothing that the law and all that it calls make is longer than what came in: it says more and counts as full. Else prove '..UptoSaid'. A law counts once. -/
mutual
def uptoBulk {H : Type} : DataW H → Nat
  | .lit (.string bytes) => bytes.length + 1
  | .lit _ => 1
  | .nil => 1
  | .ptr d => uptoBulk d + 1
  | .slice elems spare => uptoBulkAll elems + uptoBulkAll spare + 1
  | .agg parts => uptoBulkAll parts + 1
  | .iface _ d => uptoBulk d + 1
  | .map entries => uptoBulkEntries entries + 1
  | .held _ => 1
def uptoBulkAll {H : Type} : List (DataW H) → Nat
  | [] => 0
  | d :: r => uptoBulk d + uptoBulkAll r
def uptoBulkEntries {H : Type} : List (Lit × DataW H) → Nat
  | [] => 0
  | x :: r => uptoBulkEntry x + uptoBulkEntries r
def uptoBulkEntry {H : Type} : Lit × DataW H → Nat
  | (.string bytes, d) => bytes.length + uptoBulk d + 1
  | (_, d) => uptoBulk d + 1
 end
def uptoSmall : (H : Type) → List (DataW H) → Bool := fun _ ds => decide (uptoBulkAll ds ≤ 1048576)
def OpenSpec.upto (s : _root_.Go.ChangeSpec) : _root_.Go.OpenSpec := { _root_.Go.OpenSpec.ofChange s with cond := some uptoSmall }

/-- 'firkinlaw04.GfMuls', WHERE WHAT IT READS IS OF BULK AT MOST 1048576: true; the input reads as it did. -/
def gfMulsUptoRow : OpenClaim := { program := "ytlelcapbpkccjaa", sum := "5674d7937d2cff58b2e63fe1c61b800a7ea68e3ab7e4fe14c5ee8eaddf797413", func := "firkin/firkinlaw04.GfMuls", spec := "gfMuls", apart := false, narrowed := true }
def GfMulsUptoSaid : Prop := gfMulsUptoRow.holds Try.pinned (OpenSpec.upto gfMulsSpec)

/-- 'firkinlaw04.GfField', WHERE WHAT IT READS IS OF BULK AT MOST 1048576: true; the input reads as it did. -/
def gfFieldUptoRow : OpenClaim := { program := "ytlelcapbpkccjaa", sum := "5674d7937d2cff58b2e63fe1c61b800a7ea68e3ab7e4fe14c5ee8eaddf797413", func := "firkin/firkinlaw04.GfField", spec := "gfField", apart := false, narrowed := true }
def GfFieldUptoSaid : Prop := gfFieldUptoRow.holds Try.pinned (OpenSpec.upto gfFieldSpec)

/-- 'firkinlaw04.GfInverts', WHERE WHAT IT READS IS OF BULK AT MOST 1048576: true; the input reads as it did. -/
def gfInvertsUptoRow : OpenClaim := { program := "ytlelcapbpkccjaa", sum := "5674d7937d2cff58b2e63fe1c61b800a7ea68e3ab7e4fe14c5ee8eaddf797413", func := "firkin/firkinlaw04.GfInverts", spec := "gfInverts", apart := false, narrowed := true }
def GfInvertsUptoSaid : Prop := gfInvertsUptoRow.holds Try.pinned (OpenSpec.upto gfInvertsSpec)

/-- 'firkinlaw04.GfBack', WHERE WHAT IT READS IS OF BULK AT MOST 1048576: true; the input reads as it did. -/
def gfBackUptoRow : OpenClaim := { program := "ytlelcapbpkccjaa", sum := "5674d7937d2cff58b2e63fe1c61b800a7ea68e3ab7e4fe14c5ee8eaddf797413", func := "firkin/firkinlaw04.GfBack", spec := "gfBack", apart := false, narrowed := true }
def GfBackUptoSaid : Prop := gfBackUptoRow.holds Try.pinned (OpenSpec.upto gfBackSpec)

/-- 'firkinlaw04.GfPowers', WHERE WHAT IT READS IS OF BULK AT MOST 1048576: true; the input reads as it did. -/
def gfPowersUptoRow : OpenClaim := { program := "ytlelcapbpkccjaa", sum := "5674d7937d2cff58b2e63fe1c61b800a7ea68e3ab7e4fe14c5ee8eaddf797413", func := "firkin/firkinlaw04.GfPowers", spec := "gfPowers", apart := false, narrowed := true }
def GfPowersUptoSaid : Prop := gfPowersUptoRow.holds Try.pinned (OpenSpec.upto gfPowersSpec)

/-- 'firkinlaw04.GfOrder', WHERE WHAT IT READS IS OF BULK AT MOST 1048576: true; the input reads as it did. -/
def gfOrderUptoRow : OpenClaim := { program := "ytlelcapbpkccjaa", sum := "5674d7937d2cff58b2e63fe1c61b800a7ea68e3ab7e4fe14c5ee8eaddf797413", func := "firkin/firkinlaw04.GfOrder", spec := "gfOrder", apart := false, narrowed := true }
def GfOrderUptoSaid : Prop := gfOrderUptoRow.holds Try.pinned (OpenSpec.upto gfOrderSpec)

/-- 'firkinlaw04.GfRows', WHERE WHAT IT READS IS OF BULK AT MOST 1048576: true; the input reads as it did. -/
def gfRowsUptoRow : OpenClaim := { program := "ytlelcapbpkccjaa", sum := "5674d7937d2cff58b2e63fe1c61b800a7ea68e3ab7e4fe14c5ee8eaddf797413", func := "firkin/firkinlaw04.GfRows", spec := "gfRows", apart := false, narrowed := true }
def GfRowsUptoSaid : Prop := gfRowsUptoRow.holds Try.pinned (OpenSpec.upto gfRowsSpec)

/-- 'firkinlaw04.GfAdds', WHERE WHAT IT READS IS OF BULK AT MOST 1048576: true; the input reads as it did. -/
def gfAddsUptoRow : OpenClaim := { program := "ytlelcapbpkccjaa", sum := "5674d7937d2cff58b2e63fe1c61b800a7ea68e3ab7e4fe14c5ee8eaddf797413", func := "firkin/firkinlaw04.GfAdds", spec := "gfAdds", apart := false, narrowed := true }
def GfAddsUptoSaid : Prop := gfAddsUptoRow.holds Try.pinned (OpenSpec.upto gfAddsSpec)

/-- 'firkinlaw04.GfTwice', WHERE WHAT IT READS IS OF BULK AT MOST 1048576: true; the input reads as it did. -/
def gfTwiceUptoRow : OpenClaim := { program := "ytlelcapbpkccjaa", sum := "5674d7937d2cff58b2e63fe1c61b800a7ea68e3ab7e4fe14c5ee8eaddf797413", func := "firkin/firkinlaw04.GfTwice", spec := "gfTwice", apart := false, narrowed := true }
def GfTwiceUptoSaid : Prop := gfTwiceUptoRow.holds Try.pinned (OpenSpec.upto gfTwiceSpec)

end Rows
end Go.Proofs.Ytlelcapbpkccjaa
