/-
  No cell of these rows narrows 'for every input' (looked for: loops, veiled, ifaces, maps, wideKeys, modest, calm, conditions, laid).
  DERIVED. THE GIVEN ROWS OF THIS SEAT. 7 by the template 'for every input the law returns true; each argument reads behind the call as it read before'; 0 by the template 'total and deterministic' (their statements: YtjpmabdnaooglaaTotals.lean).
  GIVEN WITH THE SEED: the statements are not yours to turn. If you find one false, say at which input.
  Laid BY PROGRAM, IN A SANDBOX (cutbox-rows.mjs): the forced cells as the released guide's own fill.sh prints them over the translation 83b45acd4178de65… (all of the seat's roots in one cut). By AI agents, Wed Nov 11 2026. No macro, syntax, notation, axiom, sorry.
-/
import Derived.Test.YtjpmabdnaooglaaChecked
import GoSem.Claim
import GoSem.ClaimJoined
import GoSem.ClaimMapViews
import Derived.JoinedTies
import Derived.KernelRfl
namespace Go.Proofs.Ytjpmabdnaooglaa
/- THE CELL 'sum', in the pinned program and in every row, IS THE sha256 OF THE DUMP (.gsa) THAT YtjpmabdnaooglaaProg.lean LOADS. Nothing in Lean hashes anything: it is a label: what it is worth is what the hold of that sum in a sandbox is worth. -/
noncomputable def Try.pinned : Pinned := { name := "ytjpmabdnaooglaa", sum := "83b45acd4178de65fda8cf15796474298e87cef6a13ae37668ccc2ee4321e889", checked := Try.checked }
namespace Rows
def none {H : Type} : Left H := { results := [], args := [] }

/-- 'firkinlaw09.HuffCoders': WHATEVER THE INPUT: true; the input reads as it did. -/
def huffCodersSpec : ChangeSpec := { name := "huffCoders", fn := fun _ => fun
  | [d1, d2] => { results := [.lit (.bool true)], args := [d1, d2] }
  | _ => none }
def huffCodersRow : OpenClaim := { program := "ytjpmabdnaooglaa", sum := "83b45acd4178de65fda8cf15796474298e87cef6a13ae37668ccc2ee4321e889", func := "firkin/firkinlaw09.HuffCoders", spec := "huffCoders", apart := false }
def HuffCodersSaid : Prop := huffCodersRow.holds Try.pinned (OpenSpec.ofChange huffCodersSpec)

/-- ITS FALSE NEIGHBOUR: 'it returns false'. Refute it at one input. -/
def huffCodersWrong : ChangeSpec := { name := "huffCoders", fn := fun _ => fun
  | [d1, d2] => { results := [.lit (.bool false)], args := [d1, d2] }
  | _ => none }
def HuffCodersWrongFalsely : Prop := huffCodersRow.holds Try.pinned (OpenSpec.ofChange huffCodersWrong)

/-- 'firkinlaw09.HuffPacks': WHATEVER THE INPUT: true; the input reads as it did. -/
def huffPacksSpec : ChangeSpec := { name := "huffPacks", fn := fun _ => fun
  | [d1, d2] => { results := [.lit (.bool true)], args := [d1, d2] }
  | _ => none }
def huffPacksRow : OpenClaim := { program := "ytjpmabdnaooglaa", sum := "83b45acd4178de65fda8cf15796474298e87cef6a13ae37668ccc2ee4321e889", func := "firkin/firkinlaw09.HuffPacks", spec := "huffPacks", apart := false }
def HuffPacksSaid : Prop := huffPacksRow.holds Try.pinned (OpenSpec.ofChange huffPacksSpec)

/-- ITS FALSE NEIGHBOUR: 'it returns false'. Refute it at one input. -/
def huffPacksWrong : ChangeSpec := { name := "huffPacks", fn := fun _ => fun
  | [d1, d2] => { results := [.lit (.bool false)], args := [d1, d2] }
  | _ => none }
def HuffPacksWrongFalsely : Prop := huffPacksRow.holds Try.pinned (OpenSpec.ofChange huffPacksWrong)

/-- 'firkinlaw09.HuffUnpacks': WHATEVER THE INPUT: true; the input reads as it did. -/
def huffUnpacksSpec : ChangeSpec := { name := "huffUnpacks", fn := fun _ => fun
  | [d1, d2, d3] => { results := [.lit (.bool true)], args := [d1, d2, d3] }
  | _ => none }
def huffUnpacksRow : OpenClaim := { program := "ytjpmabdnaooglaa", sum := "83b45acd4178de65fda8cf15796474298e87cef6a13ae37668ccc2ee4321e889", func := "firkin/firkinlaw09.HuffUnpacks", spec := "huffUnpacks", apart := false }
def HuffUnpacksSaid : Prop := huffUnpacksRow.holds Try.pinned (OpenSpec.ofChange huffUnpacksSpec)

/-- ITS FALSE NEIGHBOUR: 'it returns false'. Refute it at one input. -/
def huffUnpacksWrong : ChangeSpec := { name := "huffUnpacks", fn := fun _ => fun
  | [d1, d2, d3] => { results := [.lit (.bool false)], args := [d1, d2, d3] }
  | _ => none }
def HuffUnpacksWrongFalsely : Prop := huffUnpacksRow.holds Try.pinned (OpenSpec.ofChange huffUnpacksWrong)

/-- 'firkinlaw09.HuffGets': WHATEVER THE INPUT: true; the input reads as it did. -/
def huffGetsSpec : ChangeSpec := { name := "huffGets", fn := fun _ => fun
  | [d1, d2, d3, d4] => { results := [.lit (.bool true)], args := [d1, d2, d3, d4] }
  | _ => none }
def huffGetsRow : OpenClaim := { program := "ytjpmabdnaooglaa", sum := "83b45acd4178de65fda8cf15796474298e87cef6a13ae37668ccc2ee4321e889", func := "firkin/firkinlaw09.HuffGets", spec := "huffGets", apart := false }
def HuffGetsSaid : Prop := huffGetsRow.holds Try.pinned (OpenSpec.ofChange huffGetsSpec)

/-- ITS FALSE NEIGHBOUR: 'it returns false'. Refute it at one input. -/
def huffGetsWrong : ChangeSpec := { name := "huffGets", fn := fun _ => fun
  | [d1, d2, d3, d4] => { results := [.lit (.bool false)], args := [d1, d2, d3, d4] }
  | _ => none }
def HuffGetsWrongFalsely : Prop := huffGetsRow.holds Try.pinned (OpenSpec.ofChange huffGetsWrong)

/-- 'firkinlaw09.HuffBack': WHATEVER THE INPUT: true; the input reads as it did. -/
def huffBackSpec : ChangeSpec := { name := "huffBack", fn := fun _ => fun
  | [d1, d2] => { results := [.lit (.bool true)], args := [d1, d2] }
  | _ => none }
def huffBackRow : OpenClaim := { program := "ytjpmabdnaooglaa", sum := "83b45acd4178de65fda8cf15796474298e87cef6a13ae37668ccc2ee4321e889", func := "firkin/firkinlaw09.HuffBack", spec := "huffBack", apart := false }
def HuffBackSaid : Prop := huffBackRow.holds Try.pinned (OpenSpec.ofChange huffBackSpec)

/-- ITS FALSE NEIGHBOUR: 'it returns false'. Refute it at one input. -/
def huffBackWrong : ChangeSpec := { name := "huffBack", fn := fun _ => fun
  | [d1, d2] => { results := [.lit (.bool false)], args := [d1, d2] }
  | _ => none }
def HuffBackWrongFalsely : Prop := huffBackRow.holds Try.pinned (OpenSpec.ofChange huffBackWrong)

/-- 'firkinlaw09.HuffBest': WHATEVER THE INPUT: true; the input reads as it did. -/
def huffBestSpec : ChangeSpec := { name := "huffBest", fn := fun _ => fun
  | [d1, d2] => { results := [.lit (.bool true)], args := [d1, d2] }
  | _ => none }
def huffBestRow : OpenClaim := { program := "ytjpmabdnaooglaa", sum := "83b45acd4178de65fda8cf15796474298e87cef6a13ae37668ccc2ee4321e889", func := "firkin/firkinlaw09.HuffBest", spec := "huffBest", unfollowed := true, recurses := true, apart := false }
def HuffBestSaid : Prop := huffBestRow.holds Try.pinned (OpenSpec.ofChange huffBestSpec)

/-- ITS FALSE NEIGHBOUR: 'it returns false'. Refute it at one input. -/
def huffBestWrong : ChangeSpec := { name := "huffBest", fn := fun _ => fun
  | [d1, d2] => { results := [.lit (.bool false)], args := [d1, d2] }
  | _ => none }
def HuffBestWrongFalsely : Prop := huffBestRow.holds Try.pinned (OpenSpec.ofChange huffBestWrong)

/-- 'firkinlaw09.HuffNone': WHATEVER THE INPUT: true; the input reads as it did. -/
def huffNoneSpec : ChangeSpec := { name := "huffNone", fn := fun _ => fun
  | [d1, d2] => { results := [.lit (.bool true)], args := [d1, d2] }
  | _ => none }
def huffNoneRow : OpenClaim := { program := "ytjpmabdnaooglaa", sum := "83b45acd4178de65fda8cf15796474298e87cef6a13ae37668ccc2ee4321e889", func := "firkin/firkinlaw09.HuffNone", spec := "huffNone", apart := false }
def HuffNoneSaid : Prop := huffNoneRow.holds Try.pinned (OpenSpec.ofChange huffNoneSpec)

/-- ITS FALSE NEIGHBOUR: 'it returns false'. Refute it at one input. -/
def huffNoneWrong : ChangeSpec := { name := "huffNone", fn := fun _ => fun
  | [d1, d2] => { results := [.lit (.bool false)], args := [d1, d2] }
  | _ => none }
def HuffNoneWrongFalsely : Prop := huffNoneRow.holds Try.pinned (OpenSpec.ofChange huffNoneWrong)

/- THE SECOND FORM. 'bulk': how many values and letters a reading holds, each counted each time it is reached (what is shared counts as often as it is met; a slice's spare places count too). A statement '..UptoSaid' is the law's where the arguments, and the package variables that the reading takes, are together of bulk at most 1048576: NARROWER than '..Said'. Prove '..Said' where nothing that the law and all that it calls make is longer than what came in: it says more and counts as full. Else prove '..UptoSaid'. A law counts once. -/
mutual
def uptoBulk {H : Type} : DataW H → Nat
  | .lit (.string bytes) => bytes.length + 1
  | .lit _ => 1
  | .nil => 1
  | .ptr d => uptoBulk d + 1
  | .slice elems spare => uptoBulkAll elems + uptoBulkAll spare + 1
  | .agg parts => uptoBulkAll parts + 1
  | .iface _ d => uptoBulk d + 1
  | .map entries => uptoBulkEntries entries + 1
  | .held _ => 1
def uptoBulkAll {H : Type} : List (DataW H) → Nat
  | [] => 0
  | d :: r => uptoBulk d + uptoBulkAll r
def uptoBulkEntries {H : Type} : List (Lit × DataW H) → Nat
  | [] => 0
  | x :: r => uptoBulkEntry x + uptoBulkEntries r
def uptoBulkEntry {H : Type} : Lit × DataW H → Nat
  | (.string bytes, d) => bytes.length + uptoBulk d + 1
  | (_, d) => uptoBulk d + 1
 end
def uptoSmall : (H : Type) → List (DataW H) → Bool := fun _ ds => decide (uptoBulkAll ds ≤ 1048576)
def OpenSpec.upto (s : _root_.Go.ChangeSpec) : _root_.Go.OpenSpec := { _root_.Go.OpenSpec.ofChange s with cond := some uptoSmall }

/-- 'firkinlaw09.HuffCoders', WHERE WHAT IT READS IS OF BULK AT MOST 1048576: true; the input reads as it did. -/
def huffCodersUptoRow : OpenClaim := { program := "ytjpmabdnaooglaa", sum := "83b45acd4178de65fda8cf15796474298e87cef6a13ae37668ccc2ee4321e889", func := "firkin/firkinlaw09.HuffCoders", spec := "huffCoders", apart := false, narrowed := true }
def HuffCodersUptoSaid : Prop := huffCodersUptoRow.holds Try.pinned (OpenSpec.upto huffCodersSpec)

/-- 'firkinlaw09.HuffPacks', WHERE WHAT IT READS IS OF BULK AT MOST 1048576: true; the input reads as it did. -/
def huffPacksUptoRow : OpenClaim := { program := "ytjpmabdnaooglaa", sum := "83b45acd4178de65fda8cf15796474298e87cef6a13ae37668ccc2ee4321e889", func := "firkin/firkinlaw09.HuffPacks", spec := "huffPacks", apart := false, narrowed := true }
def HuffPacksUptoSaid : Prop := huffPacksUptoRow.holds Try.pinned (OpenSpec.upto huffPacksSpec)

/-- 'firkinlaw09.HuffUnpacks', WHERE WHAT IT READS IS OF BULK AT MOST 1048576: true; the input reads as it did. -/
def huffUnpacksUptoRow : OpenClaim := { program := "ytjpmabdnaooglaa", sum := "83b45acd4178de65fda8cf15796474298e87cef6a13ae37668ccc2ee4321e889", func := "firkin/firkinlaw09.HuffUnpacks", spec := "huffUnpacks", apart := false, narrowed := true }
def HuffUnpacksUptoSaid : Prop := huffUnpacksUptoRow.holds Try.pinned (OpenSpec.upto huffUnpacksSpec)

/-- 'firkinlaw09.HuffGets', WHERE WHAT IT READS IS OF BULK AT MOST 1048576: true; the input reads as it did. -/
def huffGetsUptoRow : OpenClaim := { program := "ytjpmabdnaooglaa", sum := "83b45acd4178de65fda8cf15796474298e87cef6a13ae37668ccc2ee4321e889", func := "firkin/firkinlaw09.HuffGets", spec := "huffGets", apart := false, narrowed := true }
def HuffGetsUptoSaid : Prop := huffGetsUptoRow.holds Try.pinned (OpenSpec.upto huffGetsSpec)

/-- 'firkinlaw09.HuffBack', WHERE WHAT IT READS IS OF BULK AT MOST 1048576: true; the input reads as it did. -/
def huffBackUptoRow : OpenClaim := { program := "ytjpmabdnaooglaa", sum := "83b45acd4178de65fda8cf15796474298e87cef6a13ae37668ccc2ee4321e889", func := "firkin/firkinlaw09.HuffBack", spec := "huffBack", apart := false, narrowed := true }
def HuffBackUptoSaid : Prop := huffBackUptoRow.holds Try.pinned (OpenSpec.upto huffBackSpec)

/-- 'firkinlaw09.HuffBest', WHERE WHAT IT READS IS OF BULK AT MOST 1048576: true; the input reads as it did. -/
def huffBestUptoRow : OpenClaim := { program := "ytjpmabdnaooglaa", sum := "83b45acd4178de65fda8cf15796474298e87cef6a13ae37668ccc2ee4321e889", func := "firkin/firkinlaw09.HuffBest", spec := "huffBest", unfollowed := true, recurses := true, apart := false, narrowed := true }
def HuffBestUptoSaid : Prop := huffBestUptoRow.holds Try.pinned (OpenSpec.upto huffBestSpec)

/-- 'firkinlaw09.HuffNone', WHERE WHAT IT READS IS OF BULK AT MOST 1048576: true; the input reads as it did. -/
def huffNoneUptoRow : OpenClaim := { program := "ytjpmabdnaooglaa", sum := "83b45acd4178de65fda8cf15796474298e87cef6a13ae37668ccc2ee4321e889", func := "firkin/firkinlaw09.HuffNone", spec := "huffNone", apart := false, narrowed := true }
def HuffNoneUptoSaid : Prop := huffNoneUptoRow.holds Try.pinned (OpenSpec.upto huffNoneSpec)

end Rows
end Go.Proofs.Ytjpmabdnaooglaa
