/-
  DERIVED. GIVEN WITH THE SEED: THE CARDS: each row of YtacgkefnlbnckaaGreatDoorRows.lean that lists a variable, with what it lists TIED to the program's text (the seventh form; the later family's looks); each row that meets fmt, with fmt's text TOLD by the authors' own Lean function (tested against real Go, not proved from fmt's source: count such statements apart). THE CARD IS WHAT COUNTS. Prove the row's statement (the work); the ties are given (YtacgkefnlbnckaaGreatDoorTie.lean); close each card by the builder's one call (the guide's Derived/Test/ToyasCard.lean, 'card_holds'). Laid BY PROGRAM, IN A SANDBOX (cutbox-door.mjs). By AI agents, Wed Nov 11 2026. No macro, syntax, notation, axiom, sorry.
-/
import Derived.Test.YtacgkefnlbnckaaGreatDoorRows
import GoSem.ClaimSeven
namespace Go.Proofs.YtacgkefnlbnckaaGreatDoor
namespace Rows

/-- THE TIED CARD OF 'firkinlaw20.BodyMakes'. -/
def bodyMakesCard : Claim7 := { stood := { row := bodyMakesRow, standIns := [], harness := (true, "ffe3839a2696c043b451c1f5429734a69e801ad2d24997ba727f5f8b8f2a014f"), looks := false }, kinds := [], alts := [], laidByText := true, laidKinds := [.data], laidTests := true, laidLooks := .later }
def BodyMakesCardSaid : Prop := Claim7.holds Tryz.pinned (.plain (OpenSpec.ofChange bodyMakesSpec)) bodyMakesCard

/-- THE SECOND FORM's CARD OF 'firkinlaw20.BodyMakes'. -/
def bodyMakesUptoCard : Claim7 := { stood := { row := bodyMakesUptoRow, standIns := [], harness := (true, "ffe3839a2696c043b451c1f5429734a69e801ad2d24997ba727f5f8b8f2a014f"), looks := false }, kinds := [], alts := [], laidByText := true, laidKinds := [.data], laidTests := true, laidLooks := .later }
def BodyMakesUptoCardSaid : Prop := Claim7.holds Tryz.pinned (.plain (OpenSpec.upto bodyMakesSpec)) bodyMakesUptoCard
end Rows
end Go.Proofs.YtacgkefnlbnckaaGreatDoor
