/-
  NARROWER THAN 'FOR EVERY INPUT', by the rows' own cells (each row's printed sentence says how): StripeSizes: laid · StripeLays: laid · StripeReads: laid · StripeBack: laid · StripeMends: laid · StripeDamage: laid.
  DERIVED. THE GIVEN ROWS OF THIS SEAT. 6 by the template 'for every input the law returns true; each argument reads behind the call as it read before'; 0 by the template 'total and deterministic' (their statements: YtkfipfhmbhmamaaDoorTotals.lean).
  GIVEN WITH THE SEED: the statements are not yours to turn. If you find one false, say at which input.
  Laid BY PROGRAM, IN A SANDBOX (cutbox-rows.mjs): the forced cells as the released guide's own fill.sh prints them over the translation 003c4ad126a416c6… (all of the seat's roots in one cut). By AI agents, Wed Nov 11 2026. No macro, syntax, notation, axiom, sorry.
-/
import Derived.Test.YtkfipfhmbhmamaaDoorChecked
import GoSem.Claim
import GoSem.ClaimJoined
import GoSem.ClaimMapViews
import Derived.JoinedTies
import Derived.KernelRfl
namespace Go.Proofs.YtkfipfhmbhmamaaDoor
/- THE CELL 'sum', in the pinned program and in every row, IS THE sha256 OF THE DUMP (.gsa) THAT YtkfipfhmbhmamaaDoorProg.lean LOADS. Nothing in Lean hashes anything: it is a label: what it is worth is what the hold of that sum in a sandbox is worth. -/
noncomputable def Tryd.pinned : Pinned := { name := "ytkfipfhmbhmamaadoor", sum := "003c4ad126a416c68af895ad22bfa930c35591433259847d6660d08cc6a920eb", checked := Tryd.checked }
namespace Rows
def none {H : Type} : Left H := { results := [], args := [] }

/- WHAT THE LISTED PACKAGE-LEVEL VARIABLES READ AS WHEN THE CALL BEGINS. Each datum BY PROGRAM (the guide's laid-datum.mjs) off the statement by which the dump's own 'gosem.cut.vars' lays the variable. In a bare row this is a premise. The card (YtkfipfhmbhmamaaDoorCards.lean) ties it to the program's text. -/
def laid_firkin_crc_fourShifts {H : Type} : DataW H := .agg [.lit (.int .u32 0), .lit (.int .u32 498536548), .lit (.int .u32 997073096), .lit (.int .u32 651767980), .lit (.int .u32 1994146192), .lit (.int .u32 1802195444), .lit (.int .u32 1303535960), .lit (.int .u32 1342533948), .lit (.int .u32 3988292384), .lit (.int .u32 4027552580), .lit (.int .u32 3604390888), .lit (.int .u32 3412177804), .lit (.int .u32 2607071920), .lit (.int .u32 2262029012), .lit (.int .u32 2685067896), .lit (.int .u32 3183342108)]

/-- 'firkinlaw23.StripeSizes': WHATEVER THE INPUT: true; the input reads as it did. -/
def stripeSizesSpec : ChangeSpec := { name := "stripeSizes", fn := fun _ => fun
  | [d1, d2, d3, d4] => { results := [.lit (.bool true)], args := [d1, d2, d3, d4] }
  | _ => none }
def stripeSizesRow : OpenClaim := { program := "ytkfipfhmbhmamaadoor", sum := "003c4ad126a416c68af895ad22bfa930c35591433259847d6660d08cc6a920eb", func := "firkin/firkinlaw23.StripeSizes", spec := "stripeSizes", unfollowed := true, recurses := true, named := ["firkin/crc.fourShifts"], apart := false, laid := [("firkin/crc.fourShifts", laid_firkin_crc_fourShifts)] }
def StripeSizesSaid : Prop := stripeSizesRow.holds Tryd.pinned (OpenSpec.ofChange stripeSizesSpec)

/-- ITS FALSE NEIGHBOUR: 'it returns false'. Refute it at one input. -/
def stripeSizesWrong : ChangeSpec := { name := "stripeSizes", fn := fun _ => fun
  | [d1, d2, d3, d4] => { results := [.lit (.bool false)], args := [d1, d2, d3, d4] }
  | _ => none }
def StripeSizesWrongFalsely : Prop := stripeSizesRow.holds Tryd.pinned (OpenSpec.ofChange stripeSizesWrong)

/-- 'firkinlaw23.StripeLays': WHATEVER THE INPUT: true; the input reads as it did. -/
def stripeLaysSpec : ChangeSpec := { name := "stripeLays", fn := fun _ => fun
  | [d1, d2, d3, d4] => { results := [.lit (.bool true)], args := [d1, d2, d3, d4] }
  | _ => none }
def stripeLaysRow : OpenClaim := { program := "ytkfipfhmbhmamaadoor", sum := "003c4ad126a416c68af895ad22bfa930c35591433259847d6660d08cc6a920eb", func := "firkin/firkinlaw23.StripeLays", spec := "stripeLays", unfollowed := true, recurses := true, named := ["firkin/crc.fourShifts"], apart := false, laid := [("firkin/crc.fourShifts", laid_firkin_crc_fourShifts)] }
def StripeLaysSaid : Prop := stripeLaysRow.holds Tryd.pinned (OpenSpec.ofChange stripeLaysSpec)

/-- ITS FALSE NEIGHBOUR: 'it returns false'. Refute it at one input. -/
def stripeLaysWrong : ChangeSpec := { name := "stripeLays", fn := fun _ => fun
  | [d1, d2, d3, d4] => { results := [.lit (.bool false)], args := [d1, d2, d3, d4] }
  | _ => none }
def StripeLaysWrongFalsely : Prop := stripeLaysRow.holds Tryd.pinned (OpenSpec.ofChange stripeLaysWrong)

/-- 'firkinlaw23.StripeReads': WHATEVER THE INPUT: true; the input reads as it did. -/
def stripeReadsSpec : ChangeSpec := { name := "stripeReads", fn := fun _ => fun
  | [d1, d2, d3, d4, d5] => { results := [.lit (.bool true)], args := [d1, d2, d3, d4, d5] }
  | _ => none }
def stripeReadsRow : OpenClaim := { program := "ytkfipfhmbhmamaadoor", sum := "003c4ad126a416c68af895ad22bfa930c35591433259847d6660d08cc6a920eb", func := "firkin/firkinlaw23.StripeReads", spec := "stripeReads", unfollowed := true, recurses := true, named := ["firkin/crc.fourShifts"], apart := false, laid := [("firkin/crc.fourShifts", laid_firkin_crc_fourShifts)] }
def StripeReadsSaid : Prop := stripeReadsRow.holds Tryd.pinned (OpenSpec.ofChange stripeReadsSpec)

/-- ITS FALSE NEIGHBOUR: 'it returns false'. Refute it at one input. -/
def stripeReadsWrong : ChangeSpec := { name := "stripeReads", fn := fun _ => fun
  | [d1, d2, d3, d4, d5] => { results := [.lit (.bool false)], args := [d1, d2, d3, d4, d5] }
  | _ => none }
def StripeReadsWrongFalsely : Prop := stripeReadsRow.holds Tryd.pinned (OpenSpec.ofChange stripeReadsWrong)

/-- 'firkinlaw23.StripeBack': WHATEVER THE INPUT: true; the input reads as it did. -/
def stripeBackSpec : ChangeSpec := { name := "stripeBack", fn := fun _ => fun
  | [d1, d2] => { results := [.lit (.bool true)], args := [d1, d2] }
  | _ => none }
def stripeBackRow : OpenClaim := { program := "ytkfipfhmbhmamaadoor", sum := "003c4ad126a416c68af895ad22bfa930c35591433259847d6660d08cc6a920eb", func := "firkin/firkinlaw23.StripeBack", spec := "stripeBack", unfollowed := true, recurses := true, named := ["firkin/crc.fourShifts"], apart := false, laid := [("firkin/crc.fourShifts", laid_firkin_crc_fourShifts)] }
def StripeBackSaid : Prop := stripeBackRow.holds Tryd.pinned (OpenSpec.ofChange stripeBackSpec)

/-- ITS FALSE NEIGHBOUR: 'it returns false'. Refute it at one input. -/
def stripeBackWrong : ChangeSpec := { name := "stripeBack", fn := fun _ => fun
  | [d1, d2] => { results := [.lit (.bool false)], args := [d1, d2] }
  | _ => none }
def StripeBackWrongFalsely : Prop := stripeBackRow.holds Tryd.pinned (OpenSpec.ofChange stripeBackWrong)

/-- 'firkinlaw23.StripeMends': WHATEVER THE INPUT: true; the input reads as it did. -/
def stripeMendsSpec : ChangeSpec := { name := "stripeMends", fn := fun _ => fun
  | [d1, d2, d3] => { results := [.lit (.bool true)], args := [d1, d2, d3] }
  | _ => none }
def stripeMendsRow : OpenClaim := { program := "ytkfipfhmbhmamaadoor", sum := "003c4ad126a416c68af895ad22bfa930c35591433259847d6660d08cc6a920eb", func := "firkin/firkinlaw23.StripeMends", spec := "stripeMends", unfollowed := true, recurses := true, named := ["firkin/crc.fourShifts"], apart := false, laid := [("firkin/crc.fourShifts", laid_firkin_crc_fourShifts)] }
def StripeMendsSaid : Prop := stripeMendsRow.holds Tryd.pinned (OpenSpec.ofChange stripeMendsSpec)

/-- ITS FALSE NEIGHBOUR: 'it returns false'. Refute it at one input. -/
def stripeMendsWrong : ChangeSpec := { name := "stripeMends", fn := fun _ => fun
  | [d1, d2, d3] => { results := [.lit (.bool false)], args := [d1, d2, d3] }
  | _ => none }
def StripeMendsWrongFalsely : Prop := stripeMendsRow.holds Tryd.pinned (OpenSpec.ofChange stripeMendsWrong)

/-- 'firkinlaw23.StripeDamage': WHATEVER THE INPUT: true; the input reads as it did. -/
def stripeDamageSpec : ChangeSpec := { name := "stripeDamage", fn := fun _ => fun
  | [d1, d2, d3] => { results := [.lit (.bool true)], args := [d1, d2, d3] }
  | _ => none }
def stripeDamageRow : OpenClaim := { program := "ytkfipfhmbhmamaadoor", sum := "003c4ad126a416c68af895ad22bfa930c35591433259847d6660d08cc6a920eb", func := "firkin/firkinlaw23.StripeDamage", spec := "stripeDamage", unfollowed := true, recurses := true, named := ["firkin/crc.fourShifts"], apart := false, laid := [("firkin/crc.fourShifts", laid_firkin_crc_fourShifts)] }
def StripeDamageSaid : Prop := stripeDamageRow.holds Tryd.pinned (OpenSpec.ofChange stripeDamageSpec)

/-- ITS FALSE NEIGHBOUR: 'it returns false'. Refute it at one input. -/
def stripeDamageWrong : ChangeSpec := { name := "stripeDamage", fn := fun _ => fun
  | [d1, d2, d3] => { results := [.lit (.bool false)], args := [d1, d2, d3] }
  | _ => none }
def StripeDamageWrongFalsely : Prop := stripeDamageRow.holds Tryd.pinned (OpenSpec.ofChange stripeDamageWrong)

/- THE SECOND FORM. 'bulk': how many values and letters a reading holds, each counted each time it is reached (what is shared counts as often as it is met; a slice's spare places count too). A statement '..UptoSaid' is the law's where the arguments, and the package variables that the reading takes, are together of bulk at most 1048576: NARROWER than '..Said'. Prove '..Said' where nothing that the law and all that it calls make is longer than what came in: it says more and counts as full. Else prove '..UptoSaid'. A law counts once. -/
mutual
def uptoBulk {H : Type} : DataW H → Nat
  | .lit (.string bytes) => bytes.length + 1
  | .lit _ => 1
  | .nil => 1
  | .ptr d => uptoBulk d + 1
  | .slice elems spare => uptoBulkAll elems + uptoBulkAll spare + 1
  | .agg parts => uptoBulkAll parts + 1
  | .iface _ d => uptoBulk d + 1
  | .map entries => uptoBulkEntries entries + 1
  | .held _ => 1
def uptoBulkAll {H : Type} : List (DataW H) → Nat
  | [] => 0
  | d :: r => uptoBulk d + uptoBulkAll r
def uptoBulkEntries {H : Type} : List (Lit × DataW H) → Nat
  | [] => 0
  | x :: r => uptoBulkEntry x + uptoBulkEntries r
def uptoBulkEntry {H : Type} : Lit × DataW H → Nat
  | (.string bytes, d) => bytes.length + uptoBulk d + 1
  | (_, d) => uptoBulk d + 1
 end
def uptoSmall : (H : Type) → List (DataW H) → Bool := fun _ ds => decide (uptoBulkAll ds ≤ 1048576)
def OpenSpec.upto (s : _root_.Go.ChangeSpec) : _root_.Go.OpenSpec := { _root_.Go.OpenSpec.ofChange s with cond := some uptoSmall }

/-- 'firkinlaw23.StripeSizes', WHERE WHAT IT READS IS OF BULK AT MOST 1048576: true; the input reads as it did. -/
def stripeSizesUptoRow : OpenClaim := { program := "ytkfipfhmbhmamaadoor", sum := "003c4ad126a416c68af895ad22bfa930c35591433259847d6660d08cc6a920eb", func := "firkin/firkinlaw23.StripeSizes", spec := "stripeSizes", unfollowed := true, recurses := true, named := ["firkin/crc.fourShifts"], apart := false, laid := [("firkin/crc.fourShifts", laid_firkin_crc_fourShifts)], narrowed := true }
def StripeSizesUptoSaid : Prop := stripeSizesUptoRow.holds Tryd.pinned (OpenSpec.upto stripeSizesSpec)

/-- 'firkinlaw23.StripeLays', WHERE WHAT IT READS IS OF BULK AT MOST 1048576: true; the input reads as it did. -/
def stripeLaysUptoRow : OpenClaim := { program := "ytkfipfhmbhmamaadoor", sum := "003c4ad126a416c68af895ad22bfa930c35591433259847d6660d08cc6a920eb", func := "firkin/firkinlaw23.StripeLays", spec := "stripeLays", unfollowed := true, recurses := true, named := ["firkin/crc.fourShifts"], apart := false, laid := [("firkin/crc.fourShifts", laid_firkin_crc_fourShifts)], narrowed := true }
def StripeLaysUptoSaid : Prop := stripeLaysUptoRow.holds Tryd.pinned (OpenSpec.upto stripeLaysSpec)

/-- 'firkinlaw23.StripeReads', WHERE WHAT IT READS IS OF BULK AT MOST 1048576: true; the input reads as it did. -/
def stripeReadsUptoRow : OpenClaim := { program := "ytkfipfhmbhmamaadoor", sum := "003c4ad126a416c68af895ad22bfa930c35591433259847d6660d08cc6a920eb", func := "firkin/firkinlaw23.StripeReads", spec := "stripeReads", unfollowed := true, recurses := true, named := ["firkin/crc.fourShifts"], apart := false, laid := [("firkin/crc.fourShifts", laid_firkin_crc_fourShifts)], narrowed := true }
def StripeReadsUptoSaid : Prop := stripeReadsUptoRow.holds Tryd.pinned (OpenSpec.upto stripeReadsSpec)

/-- 'firkinlaw23.StripeBack', WHERE WHAT IT READS IS OF BULK AT MOST 1048576: true; the input reads as it did. -/
def stripeBackUptoRow : OpenClaim := { program := "ytkfipfhmbhmamaadoor", sum := "003c4ad126a416c68af895ad22bfa930c35591433259847d6660d08cc6a920eb", func := "firkin/firkinlaw23.StripeBack", spec := "stripeBack", unfollowed := true, recurses := true, named := ["firkin/crc.fourShifts"], apart := false, laid := [("firkin/crc.fourShifts", laid_firkin_crc_fourShifts)], narrowed := true }
def StripeBackUptoSaid : Prop := stripeBackUptoRow.holds Tryd.pinned (OpenSpec.upto stripeBackSpec)

/-- 'firkinlaw23.StripeMends', WHERE WHAT IT READS IS OF BULK AT MOST 1048576: true; the input reads as it did. -/
def stripeMendsUptoRow : OpenClaim := { program := "ytkfipfhmbhmamaadoor", sum := "003c4ad126a416c68af895ad22bfa930c35591433259847d6660d08cc6a920eb", func := "firkin/firkinlaw23.StripeMends", spec := "stripeMends", unfollowed := true, recurses := true, named := ["firkin/crc.fourShifts"], apart := false, laid := [("firkin/crc.fourShifts", laid_firkin_crc_fourShifts)], narrowed := true }
def StripeMendsUptoSaid : Prop := stripeMendsUptoRow.holds Tryd.pinned (OpenSpec.upto stripeMendsSpec)

/-- 'firkinlaw23.StripeDamage', WHERE WHAT IT READS IS OF BULK AT MOST 1048576: true; the input reads as it did. -/
def stripeDamageUptoRow : OpenClaim := { program := "ytkfipfhmbhmamaadoor", sum := "003c4ad126a416c68af895ad22bfa930c35591433259847d6660d08cc6a920eb", func := "firkin/firkinlaw23.StripeDamage", spec := "stripeDamage", unfollowed := true, recurses := true, named := ["firkin/crc.fourShifts"], apart := false, laid := [("firkin/crc.fourShifts", laid_firkin_crc_fourShifts)], narrowed := true }
def StripeDamageUptoSaid : Prop := stripeDamageUptoRow.holds Tryd.pinned (OpenSpec.upto stripeDamageSpec)

end Rows
end Go.Proofs.YtkfipfhmbhmamaaDoor
