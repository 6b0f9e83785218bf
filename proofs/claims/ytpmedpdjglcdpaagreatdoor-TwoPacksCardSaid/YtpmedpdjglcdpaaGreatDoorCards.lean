/-
  DERIVED. GIVEN WITH THE SEED: THE CARDS: each row of YtpmedpdjglcdpaaGreatDoorRows.lean that lists a variable, with what it lists TIED to the program's text (the seventh form; the later family's looks); each row that meets fmt, with fmt's text TOLD by the authors' own Lean function (tested against real Go, not proved from fmt's source: count such statements apart). THE CARD IS WHAT COUNTS. Prove the row's statement (the work); the ties are given (YtpmedpdjglcdpaaGreatDoorTie.lean); close each card by the builder's one call (the guide's Derived/Test/ToyasCard.lean, 'card_holds'). Laid BY PROGRAM, IN A SANDBOX (cutbox-door.mjs). By AI agents, Wed Nov 11 2026. No macro, syntax, notation, axiom, sorry.
-/
import Derived.Test.YtpmedpdjglcdpaaGreatDoorRows
import GoSem.ClaimSeven
namespace Go.Proofs.YtpmedpdjglcdpaaGreatDoor
namespace Rows

/-- THE TIED CARD OF 'firkinlaw22.TwoPacks'. -/
def twoPacksCard : Claim7 := { stood := { row := twoPacksRow, standIns := [], harness := (true, "65c3dabd3e65fd2b12e30c73300108bc9ab074ce9a57cf39caaf928edfe7f9ea"), looks := false }, kinds := [], alts := [], laidByText := true, laidKinds := [.data], laidTests := true, laidLooks := .later }
def TwoPacksCardSaid : Prop := Claim7.holds Tryz.pinned (.plain (OpenSpec.ofChange twoPacksSpec)) twoPacksCard

/-- THE SECOND FORM's CARD OF 'firkinlaw22.TwoPacks'. -/
def twoPacksUptoCard : Claim7 := { stood := { row := twoPacksUptoRow, standIns := [], harness := (true, "65c3dabd3e65fd2b12e30c73300108bc9ab074ce9a57cf39caaf928edfe7f9ea"), looks := false }, kinds := [], alts := [], laidByText := true, laidKinds := [.data], laidTests := true, laidLooks := .later }
def TwoPacksUptoCardSaid : Prop := Claim7.holds Tryz.pinned (.plain (OpenSpec.upto twoPacksSpec)) twoPacksUptoCard
end Rows
end Go.Proofs.YtpmedpdjglcdpaaGreatDoor
