/-
  DERIVED. GIVEN WITH THE SEED: THE CARDS: each row of YtkfipfhmbhmamaaDoorRows.lean that lists a variable, with what it lists TIED to the program's text (the seventh form; the later family's looks); each row that meets fmt, with fmt's text TOLD by the authors' own Lean function (tested against real Go, not proved from fmt's source: count such statements apart). THE CARD IS WHAT COUNTS. Prove the row's statement (the work); the ties are given (YtkfipfhmbhmamaaDoorTie.lean); close each card by the builder's one call (the guide's Derived/Test/ToyasCard.lean, 'card_holds'). Laid BY PROGRAM, IN A SANDBOX (cutbox-door.mjs). By AI agents, Wed Nov 11 2026. No macro, syntax, notation, axiom, sorry.
-/
import Derived.Test.YtkfipfhmbhmamaaDoorRows
import GoSem.ClaimSeven
namespace Go.Proofs.YtkfipfhmbhmamaaDoor
namespace Rows

/-- THE TIED CARD OF 'firkinlaw23.StripeSizes'. -/
def stripeSizesCard : Claim7 := { stood := { row := stripeSizesRow, standIns := [], harness := (true, "dbd1b07647b8ada04676adc2dcbdddc43d141dc393efcea8ecc1a1c58a29eb21"), looks := false }, kinds := [], alts := [], laidByText := true, laidKinds := [.data], laidTests := true, laidLooks := .later }
def StripeSizesCardSaid : Prop := Claim7.holds Tryd.pinned (.plain (OpenSpec.ofChange stripeSizesSpec)) stripeSizesCard

/-- THE TIED CARD OF 'firkinlaw23.StripeLays'. -/
def stripeLaysCard : Claim7 := { stood := { row := stripeLaysRow, standIns := [], harness := (true, "dbd1b07647b8ada04676adc2dcbdddc43d141dc393efcea8ecc1a1c58a29eb21"), looks := false }, kinds := [], alts := [], laidByText := true, laidKinds := [.data], laidTests := true, laidLooks := .later }
def StripeLaysCardSaid : Prop := Claim7.holds Tryd.pinned (.plain (OpenSpec.ofChange stripeLaysSpec)) stripeLaysCard

/-- THE TIED CARD OF 'firkinlaw23.StripeReads'. -/
def stripeReadsCard : Claim7 := { stood := { row := stripeReadsRow, standIns := [], harness := (true, "dbd1b07647b8ada04676adc2dcbdddc43d141dc393efcea8ecc1a1c58a29eb21"), looks := false }, kinds := [], alts := [], laidByText := true, laidKinds := [.data], laidTests := true, laidLooks := .later }
def StripeReadsCardSaid : Prop := Claim7.holds Tryd.pinned (.plain (OpenSpec.ofChange stripeReadsSpec)) stripeReadsCard

/-- THE TIED CARD OF 'firkinlaw23.StripeBack'. -/
def stripeBackCard : Claim7 := { stood := { row := stripeBackRow, standIns := [], harness := (true, "dbd1b07647b8ada04676adc2dcbdddc43d141dc393efcea8ecc1a1c58a29eb21"), looks := false }, kinds := [], alts := [], laidByText := true, laidKinds := [.data], laidTests := true, laidLooks := .later }
def StripeBackCardSaid : Prop := Claim7.holds Tryd.pinned (.plain (OpenSpec.ofChange stripeBackSpec)) stripeBackCard

/-- THE TIED CARD OF 'firkinlaw23.StripeMends'. -/
def stripeMendsCard : Claim7 := { stood := { row := stripeMendsRow, standIns := [], harness := (true, "dbd1b07647b8ada04676adc2dcbdddc43d141dc393efcea8ecc1a1c58a29eb21"), looks := false }, kinds := [], alts := [], laidByText := true, laidKinds := [.data], laidTests := true, laidLooks := .later }
def StripeMendsCardSaid : Prop := Claim7.holds Tryd.pinned (.plain (OpenSpec.ofChange stripeMendsSpec)) stripeMendsCard

/-- THE TIED CARD OF 'firkinlaw23.StripeDamage'. -/
def stripeDamageCard : Claim7 := { stood := { row := stripeDamageRow, standIns := [], harness := (true, "dbd1b07647b8ada04676adc2dcbdddc43d141dc393efcea8ecc1a1c58a29eb21"), looks := false }, kinds := [], alts := [], laidByText := true, laidKinds := [.data], laidTests := true, laidLooks := .later }
def StripeDamageCardSaid : Prop := Claim7.holds Tryd.pinned (.plain (OpenSpec.ofChange stripeDamageSpec)) stripeDamageCard

/-- THE SECOND FORM's CARD OF 'firkinlaw23.StripeSizes'. -/
def stripeSizesUptoCard : Claim7 := { stood := { row := stripeSizesUptoRow, standIns := [], harness := (true, "dbd1b07647b8ada04676adc2dcbdddc43d141dc393efcea8ecc1a1c58a29eb21"), looks := false }, kinds := [], alts := [], laidByText := true, laidKinds := [.data], laidTests := true, laidLooks := .later }
def StripeSizesUptoCardSaid : Prop := Claim7.holds Tryd.pinned (.plain (OpenSpec.upto stripeSizesSpec)) stripeSizesUptoCard

/-- THE SECOND FORM's CARD OF 'firkinlaw23.StripeLays'. -/
def stripeLaysUptoCard : Claim7 := { stood := { row := stripeLaysUptoRow, standIns := [], harness := (true, "dbd1b07647b8ada04676adc2dcbdddc43d141dc393efcea8ecc1a1c58a29eb21"), looks := false }, kinds := [], alts := [], laidByText := true, laidKinds := [.data], laidTests := true, laidLooks := .later }
def StripeLaysUptoCardSaid : Prop := Claim7.holds Tryd.pinned (.plain (OpenSpec.upto stripeLaysSpec)) stripeLaysUptoCard

/-- THE SECOND FORM's CARD OF 'firkinlaw23.StripeReads'. -/
def stripeReadsUptoCard : Claim7 := { stood := { row := stripeReadsUptoRow, standIns := [], harness := (true, "dbd1b07647b8ada04676adc2dcbdddc43d141dc393efcea8ecc1a1c58a29eb21"), looks := false }, kinds := [], alts := [], laidByText := true, laidKinds := [.data], laidTests := true, laidLooks := .later }
def StripeReadsUptoCardSaid : Prop := Claim7.holds Tryd.pinned (.plain (OpenSpec.upto stripeReadsSpec)) stripeReadsUptoCard

/-- THE SECOND FORM's CARD OF 'firkinlaw23.StripeBack'. -/
def stripeBackUptoCard : Claim7 := { stood := { row := stripeBackUptoRow, standIns := [], harness := (true, "dbd1b07647b8ada04676adc2dcbdddc43d141dc393efcea8ecc1a1c58a29eb21"), looks := false }, kinds := [], alts := [], laidByText := true, laidKinds := [.data], laidTests := true, laidLooks := .later }
def StripeBackUptoCardSaid : Prop := Claim7.holds Tryd.pinned (.plain (OpenSpec.upto stripeBackSpec)) stripeBackUptoCard

/-- THE SECOND FORM's CARD OF 'firkinlaw23.StripeMends'. -/
def stripeMendsUptoCard : Claim7 := { stood := { row := stripeMendsUptoRow, standIns := [], harness := (true, "dbd1b07647b8ada04676adc2dcbdddc43d141dc393efcea8ecc1a1c58a29eb21"), looks := false }, kinds := [], alts := [], laidByText := true, laidKinds := [.data], laidTests := true, laidLooks := .later }
def StripeMendsUptoCardSaid : Prop := Claim7.holds Tryd.pinned (.plain (OpenSpec.upto stripeMendsSpec)) stripeMendsUptoCard

/-- THE SECOND FORM's CARD OF 'firkinlaw23.StripeDamage'. -/
def stripeDamageUptoCard : Claim7 := { stood := { row := stripeDamageUptoRow, standIns := [], harness := (true, "dbd1b07647b8ada04676adc2dcbdddc43d141dc393efcea8ecc1a1c58a29eb21"), looks := false }, kinds := [], alts := [], laidByText := true, laidKinds := [.data], laidTests := true, laidLooks := .later }
def StripeDamageUptoCardSaid : Prop := Claim7.holds Tryd.pinned (.plain (OpenSpec.upto stripeDamageSpec)) stripeDamageUptoCard
end Rows
end Go.Proofs.YtkfipfhmbhmamaaDoor
