/-
  DERIVED. GIVEN WITH THE SEED: THE CARDS: each row of YtaogpmombefmmaaGreatDoorRows.lean that lists a variable, with what it lists TIED to the program's text (the seventh form; the later family's looks); each row that meets fmt, with fmt's text TOLD by the authors' own Lean function (tested against real Go, not proved from fmt's source: count such statements apart). THE CARD IS WHAT COUNTS. Prove the row's statement (the work); the ties are given (YtaogpmombefmmaaGreatDoorTie.lean); close each card by the builder's one call (the guide's Derived/Test/ToyasCard.lean, 'card_holds'). Laid BY PROGRAM, IN A SANDBOX (cutbox-door.mjs). By AI agents, Wed Nov 11 2026. No macro, syntax, notation, axiom, sorry.
-/
import Derived.Test.YtaogpmombefmmaaGreatDoorRows
import GoSem.ClaimSeven
namespace Go.Proofs.YtaogpmombefmmaaGreatDoor
namespace Rows

/-- THE TIED CARD OF 'firkinlaw21.OnePacks'. -/
def onePacksCard : Claim7 := { stood := { row := onePacksRow, standIns := [], harness := (true, "b9cd2e48f9878805924eff7e3dbd36f3f95a18724e3e5f8da07a44c7e1c55ceb"), looks := false }, kinds := [], alts := [], laidByText := true, laidKinds := [.data], laidTests := true, laidLooks := .later }
def OnePacksCardSaid : Prop := Claim7.holds Tryz.pinned (.plain (OpenSpec.ofChange onePacksSpec)) onePacksCard

/-- THE SECOND FORM's CARD OF 'firkinlaw21.OnePacks'. -/
def onePacksUptoCard : Claim7 := { stood := { row := onePacksUptoRow, standIns := [], harness := (true, "b9cd2e48f9878805924eff7e3dbd36f3f95a18724e3e5f8da07a44c7e1c55ceb"), looks := false }, kinds := [], alts := [], laidByText := true, laidKinds := [.data], laidTests := true, laidLooks := .later }
def OnePacksUptoCardSaid : Prop := Claim7.holds Tryz.pinned (.plain (OpenSpec.upto onePacksSpec)) onePacksUptoCard
end Rows
end Go.Proofs.YtaogpmombefmmaaGreatDoor
