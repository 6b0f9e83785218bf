/-
  No cell of these rows narrows 'for every input' (looked for: loops, veiled, ifaces, maps, wideKeys, modest, calm, conditions, laid).
  DERIVED. THE GIVEN ROWS OF THIS SEAT. 7 by the template 'for every input the law returns true; each argument reads behind the call as it read before'; 0 by the template 'total and deterministic' (their statements: YtgnmdpklkmlpfaaTotals.lean).
  GIVEN WITH THE SEED: the statements are not yours to turn. If you find one false, say at which input.
  Laid BY PROGRAM, IN A SANDBOX (cutbox-rows.mjs): the forced cells as the released guide's own fill.sh prints them over the translation acd6f32c9dd26ac1… (all of the seat's roots in one cut). By AI agents, Wed Nov 11 2026. No macro, syntax, notation, axiom, sorry.
-/
import Derived.Test.YtgnmdpklkmlpfaaChecked
import GoSem.Claim
import GoSem.ClaimJoined
import GoSem.ClaimMapViews
import Derived.JoinedTies
import Derived.KernelRfl
namespace Go.Proofs.Ytgnmdpklkmlpfaa
/- THE CELL 'sum', in the pinned program and in every row, IS THE sha256 OF THE DUMP (.gsa) THAT YtgnmdpklkmlpfaaProg.lean LOADS. Nothing in Lean hashes anything: it is a label: what it is worth is what the hold of that sum in a sandbox is worth. -/
noncomputable def Try.pinned : Pinned := { name := "ytgnmdpklkmlpfaa", sum := "acd6f32c9dd26ac1d47cbb06eba3e0f9b6c03633f6de2816606ae8cc6481f4fd", checked := Try.checked }
namespace Rows
def none {H : Type} : Left H := { results := [], args := [] }

/-- 'firkinlaw03.NumsWrites': WHATEVER THE INPUT: true; the input reads as it did. -/
def numsWritesSpec : ChangeSpec := { name := "numsWrites", fn := fun _ => fun
  | [d1, d2, d3] => { results := [.lit (.bool true)], args := [d1, d2, d3] }
  | _ => none }
def numsWritesRow : OpenClaim := { program := "ytgnmdpklkmlpfaa", sum := "acd6f32c9dd26ac1d47cbb06eba3e0f9b6c03633f6de2816606ae8cc6481f4fd", func := "firkin/firkinlaw03.NumsWrites", spec := "numsWrites", apart := false }
def NumsWritesSaid : Prop := numsWritesRow.holds Try.pinned (OpenSpec.ofChange numsWritesSpec)

/-- ITS FALSE NEIGHBOUR: 'it returns false'. Refute it at one input. -/
def numsWritesWrong : ChangeSpec := { name := "numsWrites", fn := fun _ => fun
  | [d1, d2, d3] => { results := [.lit (.bool false)], args := [d1, d2, d3] }
  | _ => none }
def NumsWritesWrongFalsely : Prop := numsWritesRow.holds Try.pinned (OpenSpec.ofChange numsWritesWrong)

/-- 'firkinlaw03.NumsAll': WHATEVER THE INPUT: true; the input reads as it did. -/
def numsAllSpec : ChangeSpec := { name := "numsAll", fn := fun _ => fun
  | [d] => { results := [.lit (.bool true)], args := [d] }
  | _ => none }
def numsAllRow : OpenClaim := { program := "ytgnmdpklkmlpfaa", sum := "acd6f32c9dd26ac1d47cbb06eba3e0f9b6c03633f6de2816606ae8cc6481f4fd", func := "firkin/firkinlaw03.NumsAll", spec := "numsAll", apart := false }
def NumsAllSaid : Prop := numsAllRow.holds Try.pinned (OpenSpec.ofChange numsAllSpec)

/-- ITS FALSE NEIGHBOUR: 'it returns false'. Refute it at one input. -/
def numsAllWrong : ChangeSpec := { name := "numsAll", fn := fun _ => fun
  | [d] => { results := [.lit (.bool false)], args := [d] }
  | _ => none }
def NumsAllWrongFalsely : Prop := numsAllRow.holds Try.pinned (OpenSpec.ofChange numsAllWrong)

/-- 'firkinlaw03.NumsZig': WHATEVER THE INPUT: true; the input reads as it did. -/
def numsZigSpec : ChangeSpec := { name := "numsZig", fn := fun _ => fun
  | [d1, d2] => { results := [.lit (.bool true)], args := [d1, d2] }
  | _ => none }
def numsZigRow : OpenClaim := { program := "ytgnmdpklkmlpfaa", sum := "acd6f32c9dd26ac1d47cbb06eba3e0f9b6c03633f6de2816606ae8cc6481f4fd", func := "firkin/firkinlaw03.NumsZig", spec := "numsZig", apart := false }
def NumsZigSaid : Prop := numsZigRow.holds Try.pinned (OpenSpec.ofChange numsZigSpec)

/-- ITS FALSE NEIGHBOUR: 'it returns false'. Refute it at one input. -/
def numsZigWrong : ChangeSpec := { name := "numsZig", fn := fun _ => fun
  | [d1, d2] => { results := [.lit (.bool false)], args := [d1, d2] }
  | _ => none }
def NumsZigWrongFalsely : Prop := numsZigRow.holds Try.pinned (OpenSpec.ofChange numsZigWrong)

/-- 'firkinlaw03.NumsStill': WHATEVER THE INPUT: true; the input reads as it did. -/
def numsStillSpec : ChangeSpec := { name := "numsStill", fn := fun _ => fun
  | [d1, d2, d3] => { results := [.lit (.bool true)], args := [d1, d2, d3] }
  | _ => none }
def numsStillRow : OpenClaim := { program := "ytgnmdpklkmlpfaa", sum := "acd6f32c9dd26ac1d47cbb06eba3e0f9b6c03633f6de2816606ae8cc6481f4fd", func := "firkin/firkinlaw03.NumsStill", spec := "numsStill", unfollowed := true, recurses := true, apart := false }
def NumsStillSaid : Prop := numsStillRow.holds Try.pinned (OpenSpec.ofChange numsStillSpec)

/-- ITS FALSE NEIGHBOUR: 'it returns false'. Refute it at one input. -/
def numsStillWrong : ChangeSpec := { name := "numsStill", fn := fun _ => fun
  | [d1, d2, d3] => { results := [.lit (.bool false)], args := [d1, d2, d3] }
  | _ => none }
def NumsStillWrongFalsely : Prop := numsStillRow.holds Try.pinned (OpenSpec.ofChange numsStillWrong)

/-- 'firkinlaw03.NumsBack': WHATEVER THE INPUT: true; the input reads as it did. -/
def numsBackSpec : ChangeSpec := { name := "numsBack", fn := fun _ => fun
  | [d1, d2, d3, d4] => { results := [.lit (.bool true)], args := [d1, d2, d3, d4] }
  | _ => none }
def numsBackRow : OpenClaim := { program := "ytgnmdpklkmlpfaa", sum := "acd6f32c9dd26ac1d47cbb06eba3e0f9b6c03633f6de2816606ae8cc6481f4fd", func := "firkin/firkinlaw03.NumsBack", spec := "numsBack", unfollowed := true, recurses := true, apart := false }
def NumsBackSaid : Prop := numsBackRow.holds Try.pinned (OpenSpec.ofChange numsBackSpec)

/-- ITS FALSE NEIGHBOUR: 'it returns false'. Refute it at one input. -/
def numsBackWrong : ChangeSpec := { name := "numsBack", fn := fun _ => fun
  | [d1, d2, d3, d4] => { results := [.lit (.bool false)], args := [d1, d2, d3, d4] }
  | _ => none }
def NumsBackWrongFalsely : Prop := numsBackRow.holds Try.pinned (OpenSpec.ofChange numsBackWrong)

/-- 'firkinlaw03.NumsOne': WHATEVER THE INPUT: true; the input reads as it did. -/
def numsOneSpec : ChangeSpec := { name := "numsOne", fn := fun _ => fun
  | [d] => { results := [.lit (.bool true)], args := [d] }
  | _ => none }
def numsOneRow : OpenClaim := { program := "ytgnmdpklkmlpfaa", sum := "acd6f32c9dd26ac1d47cbb06eba3e0f9b6c03633f6de2816606ae8cc6481f4fd", func := "firkin/firkinlaw03.NumsOne", spec := "numsOne", unfollowed := true, recurses := true, apart := false }
def NumsOneSaid : Prop := numsOneRow.holds Try.pinned (OpenSpec.ofChange numsOneSpec)

/-- ITS FALSE NEIGHBOUR: 'it returns false'. Refute it at one input. -/
def numsOneWrong : ChangeSpec := { name := "numsOne", fn := fun _ => fun
  | [d] => { results := [.lit (.bool false)], args := [d] }
  | _ => none }
def NumsOneWrongFalsely : Prop := numsOneRow.holds Try.pinned (OpenSpec.ofChange numsOneWrong)

/-- 'firkinlaw03.NumsNone': WHATEVER THE INPUT: true; the input reads as it did. -/
def numsNoneSpec : ChangeSpec := { name := "numsNone", fn := fun _ => fun
  | [d1, d2] => { results := [.lit (.bool true)], args := [d1, d2] }
  | _ => none }
def numsNoneRow : OpenClaim := { program := "ytgnmdpklkmlpfaa", sum := "acd6f32c9dd26ac1d47cbb06eba3e0f9b6c03633f6de2816606ae8cc6481f4fd", func := "firkin/firkinlaw03.NumsNone", spec := "numsNone", unfollowed := true, recurses := true, apart := false }
def NumsNoneSaid : Prop := numsNoneRow.holds Try.pinned (OpenSpec.ofChange numsNoneSpec)

/-- ITS FALSE NEIGHBOUR: 'it returns false'. Refute it at one input. -/
def numsNoneWrong : ChangeSpec := { name := "numsNone", fn := fun _ => fun
  | [d1, d2] => { results := [.lit (.bool false)], args := [d1, d2] }
  | _ => none }
def NumsNoneWrongFalsely : Prop := numsNoneRow.holds Try.pinned (OpenSpec.ofChange numsNoneWrong)

/- THE SECOND FORM. 'bulk': how many values and letters a reading holds, each counted each time it is reached (what is shared counts as often as it is met; a slice's spare places count too). A statement '..UptoSaid' is the law's where the arguments, and the package variables that the reading takes, are together of bulk at most 1048576: NARROWER than '..Said'. Prove '..Said' where nothing that the law and all that it calls make is longer than what came in: it says more and counts as full. Else prove '..UptoSaid'. A law counts once. -/
mutual
def uptoBulk {H : Type} : DataW H → Nat
  | .lit (.string bytes) => bytes.length + 1
  | .lit _ => 1
  | .nil => 1
  | .ptr d => uptoBulk d + 1
  | .slice elems spare => uptoBulkAll elems + uptoBulkAll spare + 1
  | .agg parts => uptoBulkAll parts + 1
  | .iface _ d => uptoBulk d + 1
  | .map entries => uptoBulkEntries entries + 1
  | .held _ => 1
def uptoBulkAll {H : Type} : List (DataW H) → Nat
  | [] => 0
  | d :: r => uptoBulk d + uptoBulkAll r
def uptoBulkEntries {H : Type} : List (Lit × DataW H) → Nat
  | [] => 0
  | x :: r => uptoBulkEntry x + uptoBulkEntries r
def uptoBulkEntry {H : Type} : Lit × DataW H → Nat
  | (.string bytes, d) => bytes.length + uptoBulk d + 1
  | (_, d) => uptoBulk d + 1
 end
def uptoSmall : (H : Type) → List (DataW H) → Bool := fun _ ds => decide (uptoBulkAll ds ≤ 1048576)
def OpenSpec.upto (s : _root_.Go.ChangeSpec) : _root_.Go.OpenSpec := { _root_.Go.OpenSpec.ofChange s with cond := some uptoSmall }

/-- 'firkinlaw03.NumsWrites', WHERE WHAT IT READS IS OF BULK AT MOST 1048576: true; the input reads as it did. -/
def numsWritesUptoRow : OpenClaim := { program := "ytgnmdpklkmlpfaa", sum := "acd6f32c9dd26ac1d47cbb06eba3e0f9b6c03633f6de2816606ae8cc6481f4fd", func := "firkin/firkinlaw03.NumsWrites", spec := "numsWrites", apart := false, narrowed := true }
def NumsWritesUptoSaid : Prop := numsWritesUptoRow.holds Try.pinned (OpenSpec.upto numsWritesSpec)

/-- 'firkinlaw03.NumsAll', WHERE WHAT IT READS IS OF BULK AT MOST 1048576: true; the input reads as it did. -/
def numsAllUptoRow : OpenClaim := { program := "ytgnmdpklkmlpfaa", sum := "acd6f32c9dd26ac1d47cbb06eba3e0f9b6c03633f6de2816606ae8cc6481f4fd", func := "firkin/firkinlaw03.NumsAll", spec := "numsAll", apart := false, narrowed := true }
def NumsAllUptoSaid : Prop := numsAllUptoRow.holds Try.pinned (OpenSpec.upto numsAllSpec)

/-- 'firkinlaw03.NumsZig', WHERE WHAT IT READS IS OF BULK AT MOST 1048576: true; the input reads as it did. -/
def numsZigUptoRow : OpenClaim := { program := "ytgnmdpklkmlpfaa", sum := "acd6f32c9dd26ac1d47cbb06eba3e0f9b6c03633f6de2816606ae8cc6481f4fd", func := "firkin/firkinlaw03.NumsZig", spec := "numsZig", apart := false, narrowed := true }
def NumsZigUptoSaid : Prop := numsZigUptoRow.holds Try.pinned (OpenSpec.upto numsZigSpec)

/-- 'firkinlaw03.NumsStill', WHERE WHAT IT READS IS OF BULK AT MOST 1048576: true; the input reads as it did. -/
def numsStillUptoRow : OpenClaim := { program := "ytgnmdpklkmlpfaa", sum := "acd6f32c9dd26ac1d47cbb06eba3e0f9b6c03633f6de2816606ae8cc6481f4fd", func := "firkin/firkinlaw03.NumsStill", spec := "numsStill", unfollowed := true, recurses := true, apart := false, narrowed := true }
def NumsStillUptoSaid : Prop := numsStillUptoRow.holds Try.pinned (OpenSpec.upto numsStillSpec)

/-- 'firkinlaw03.NumsBack', WHERE WHAT IT READS IS OF BULK AT MOST 1048576: true; the input reads as it did. -/
def numsBackUptoRow : OpenClaim := { program := "ytgnmdpklkmlpfaa", sum := "acd6f32c9dd26ac1d47cbb06eba3e0f9b6c03633f6de2816606ae8cc6481f4fd", func := "firkin/firkinlaw03.NumsBack", spec := "numsBack", unfollowed := true, recurses := true, apart := false, narrowed := true }
def NumsBackUptoSaid : Prop := numsBackUptoRow.holds Try.pinned (OpenSpec.upto numsBackSpec)

/-- 'firkinlaw03.NumsOne', WHERE WHAT IT READS IS OF BULK AT MOST 1048576: true; the input reads as it did. -/
def numsOneUptoRow : OpenClaim := { program := "ytgnmdpklkmlpfaa", sum := "acd6f32c9dd26ac1d47cbb06eba3e0f9b6c03633f6de2816606ae8cc6481f4fd", func := "firkin/firkinlaw03.NumsOne", spec := "numsOne", unfollowed := true, recurses := true, apart := false, narrowed := true }
def NumsOneUptoSaid : Prop := numsOneUptoRow.holds Try.pinned (OpenSpec.upto numsOneSpec)

/-- 'firkinlaw03.NumsNone', WHERE WHAT IT READS IS OF BULK AT MOST 1048576: true; the input reads as it did. -/
def numsNoneUptoRow : OpenClaim := { program := "ytgnmdpklkmlpfaa", sum := "acd6f32c9dd26ac1d47cbb06eba3e0f9b6c03633f6de2816606ae8cc6481f4fd", func := "firkin/firkinlaw03.NumsNone", spec := "numsNone", unfollowed := true, recurses := true, apart := false, narrowed := true }
def NumsNoneUptoSaid : Prop := numsNoneUptoRow.holds Try.pinned (OpenSpec.upto numsNoneSpec)

end Rows
end Go.Proofs.Ytgnmdpklkmlpfaa
