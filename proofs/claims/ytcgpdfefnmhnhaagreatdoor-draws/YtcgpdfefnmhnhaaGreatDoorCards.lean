/-
  DERIVED. GIVEN WITH THE SEED: THE CARDS: each row of YtcgpdfefnmhnhaaGreatDoorRows.lean that lists a variable, with what it lists TIED to the program's text (the seventh form; the later family's looks); each row that meets fmt, with fmt's text TOLD by the authors' own Lean function (tested against real Go, not proved from fmt's source: count such statements apart). THE CARD IS WHAT COUNTS. Prove the row's statement (the work); the ties are given (YtcgpdfefnmhnhaaGreatDoorTie.lean); close each card by the builder's one call (the guide's Derived/Test/ToyasCard.lean, 'card_holds'). Laid BY PROGRAM, IN A SANDBOX (cutbox-door.mjs). By AI agents, Wed Nov 11 2026. No macro, syntax, notation, axiom, sorry.
-/
import Derived.Test.YtcgpdfefnmhnhaaGreatDoorRows
import GoSem.ClaimSeven
namespace Go.Proofs.YtcgpdfefnmhnhaaGreatDoor
namespace Rows

/-- THE TIED CARD OF 'atlaslaw.Draws'. -/
def drawsCard : Claim7 := { stood := { row := drawsRow, standIns := [], harness := (true, "7fbdc9a40be6674245b13581c0d4cf87b820c738e6f77764daee9b3009efe35e"), looks := false }, kinds := [], alts := [], laidByText := true, laidKinds := [.data, .data, .data], laidTests := true, laidLooks := .later }
def DrawsCardSaid : Prop := Claim7.holds Tryz.pinned (.plain (OpenSpec.ofChange drawsSpec)) drawsCard

/-- THE SECOND FORM's CARD OF 'atlaslaw.Draws'. -/
def drawsUptoCard : Claim7 := { stood := { row := drawsUptoRow, standIns := [], harness := (true, "7fbdc9a40be6674245b13581c0d4cf87b820c738e6f77764daee9b3009efe35e"), looks := false }, kinds := [], alts := [], laidByText := true, laidKinds := [.data, .data, .data], laidTests := true, laidLooks := .later }
def DrawsUptoCardSaid : Prop := Claim7.holds Tryz.pinned (.plain (OpenSpec.upto drawsSpec)) drawsUptoCard
end Rows
end Go.Proofs.YtcgpdfefnmhnhaaGreatDoor
