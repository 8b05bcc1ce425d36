/-
  DERIVED. GIVEN WITH THE SEED: THE CARDS: each row of YtenaepdmlknlcaaGreatDoorRows.lean that lists a variable, with what it lists TIED to the program's text (the seventh form; the later family's looks); each row that meets fmt, with fmt's text TOLD by the authors' own Lean function (tested against real Go, not proved from fmt's source: count such statements apart). THE CARD IS WHAT COUNTS. Prove the row's statement (the work); the ties are given (YtenaepdmlknlcaaGreatDoorTie.lean); close each card by the builder's one call (the guide's Derived/Test/ToyasCard.lean, 'card_holds'). Laid BY PROGRAM, IN A SANDBOX (cutbox-door.mjs). By AI agents, Wed Nov 11 2026. No macro, syntax, notation, axiom, sorry.
-/
import Derived.Test.YtenaepdmlknlcaaGreatDoorRows
import GoSem.ClaimSeven
namespace Go.Proofs.YtenaepdmlknlcaaGreatDoor
namespace Rows

/-- THE TIED CARD OF 'atlaslaw.Draws'. -/
def drawsCard : Claim7 := { stood := { row := drawsRow, standIns := [], harness := (true, "69e707474c801d06f827ded41f2e0684a1aa86586873edd76f3588cdedeb2b2f"), looks := true }, kinds := [], alts := [], laidByText := true, laidKinds := [.data, .data, .data], laidTests := true, laidLooks := .later }
def DrawsCardSaid : Prop := Claim7.holds Tryz.pinned (.plain (OpenSpec.ofChange drawsSpec)) drawsCard

/-- THE TIED CARD OF 'atlaslaw.Alone'. -/
def aloneCard : Claim7 := { stood := { row := aloneRow, standIns := [], harness := (true, "69e707474c801d06f827ded41f2e0684a1aa86586873edd76f3588cdedeb2b2f"), looks := true }, kinds := [], alts := [], laidByText := true, laidKinds := [.data, .data, .data, .data, .sentinel, .sentinel, .pinned], laidTests := true, laidLooks := .later }
def AloneCardSaid : Prop := Claim7.holds Tryz.pinned (.plain (OpenSpec.ofChange aloneSpec)) aloneCard

/-- THE TIED CARD OF 'atlaskeep.Roomless'. -/
def roomlessCard : Claim7 := { stood := { row := roomlessRow, standIns := [], harness := (true, "69e707474c801d06f827ded41f2e0684a1aa86586873edd76f3588cdedeb2b2f"), looks := true }, kinds := [], alts := [], laidByText := true, laidKinds := [.data, .data, .data, .data, .sentinel, .sentinel, .pinned], laidTests := true, laidLooks := .later }
def RoomlessCardSaid : Prop := Claim7.holds Tryz.pinned (.plain (OpenSpec.ofChange roomlessSpec)) roomlessCard

/-- THE TIED CARD OF 'atlaskeep.Known'. -/
def knownCard : Claim7 := { stood := { row := knownRow, standIns := [], harness := (true, "69e707474c801d06f827ded41f2e0684a1aa86586873edd76f3588cdedeb2b2f"), looks := true }, kinds := [], alts := [], laidByText := true, laidKinds := [.data, .data, .data, .data, .sentinel, .sentinel, .pinned], laidTests := true, laidLooks := .later }
def KnownCardSaid : Prop := Claim7.holds Tryz.pinned (.plain (OpenSpec.ofChange knownSpec)) knownCard

/-- THE TIED CARD OF 'atlaslaw.All'. -/
def allCard : Claim7 := { stood := { row := allRow, standIns := [], harness := (true, "69e707474c801d06f827ded41f2e0684a1aa86586873edd76f3588cdedeb2b2f"), looks := true }, kinds := [], alts := [], laidByText := true, laidKinds := [.data, .data, .data, .data, .sentinel, .sentinel, .pinned], laidTests := true, laidLooks := .later }
def AllCardSaid : Prop := Claim7.holds Tryz.pinned (.plain (OpenSpec.ofChange allSpec)) allCard

/-- THE TIED CARD OF 'atlaskeep.One'. -/
def oneCard : Claim7 := { stood := { row := oneRow, standIns := [], harness := (true, "69e707474c801d06f827ded41f2e0684a1aa86586873edd76f3588cdedeb2b2f"), looks := true }, kinds := [], alts := [], laidByText := true, laidKinds := [.data, .data, .data, .data, .sentinel, .sentinel, .pinned], laidTests := true, laidLooks := .later }
def OneCardSaid : Prop := Claim7.holds Tryz.pinned (.plain (OpenSpec.ofChange oneSpec)) oneCard

/-- THE TIED CARD OF 'atlaskeep.Settled'. -/
def settledCard : Claim7 := { stood := { row := settledRow, standIns := [], harness := (true, "69e707474c801d06f827ded41f2e0684a1aa86586873edd76f3588cdedeb2b2f"), looks := true }, kinds := [], alts := [], laidByText := true, laidKinds := [.data, .data, .data, .data, .sentinel, .sentinel, .pinned], laidTests := true, laidLooks := .later }
def SettledCardSaid : Prop := Claim7.holds Tryz.pinned (.plain (OpenSpec.ofChange settledSpec)) settledCard

/-- THE TIED CARD OF 'atlaskeep.Fair'. -/
def fairCard : Claim7 := { stood := { row := fairRow, standIns := [], harness := (true, "69e707474c801d06f827ded41f2e0684a1aa86586873edd76f3588cdedeb2b2f"), looks := true }, kinds := [], alts := [], laidByText := true, laidKinds := [.data, .data, .data, .data, .sentinel, .sentinel, .pinned], laidTests := true, laidLooks := .later }
def FairCardSaid : Prop := Claim7.holds Tryz.pinned (.plain (OpenSpec.ofChange fairSpec)) fairCard

/-- THE SECOND FORM's CARD OF 'atlaslaw.Draws'. -/
def drawsUptoCard : Claim7 := { stood := { row := drawsUptoRow, standIns := [], harness := (true, "69e707474c801d06f827ded41f2e0684a1aa86586873edd76f3588cdedeb2b2f"), looks := true }, kinds := [], alts := [], laidByText := true, laidKinds := [.data, .data, .data], laidTests := true, laidLooks := .later }
def DrawsUptoCardSaid : Prop := Claim7.holds Tryz.pinned (.plain (OpenSpec.upto drawsSpec)) drawsUptoCard

/-- THE SECOND FORM's CARD OF 'atlaslaw.Alone'. -/
def aloneUptoCard : Claim7 := { stood := { row := aloneUptoRow, standIns := [], harness := (true, "69e707474c801d06f827ded41f2e0684a1aa86586873edd76f3588cdedeb2b2f"), looks := true }, kinds := [], alts := [], laidByText := true, laidKinds := [.data, .data, .data, .data, .sentinel, .sentinel, .pinned], laidTests := true, laidLooks := .later }
def AloneUptoCardSaid : Prop := Claim7.holds Tryz.pinned (.plain (OpenSpec.upto aloneSpec)) aloneUptoCard

/-- THE SECOND FORM's CARD OF 'atlaskeep.Roomless'. -/
def roomlessUptoCard : Claim7 := { stood := { row := roomlessUptoRow, standIns := [], harness := (true, "69e707474c801d06f827ded41f2e0684a1aa86586873edd76f3588cdedeb2b2f"), looks := true }, kinds := [], alts := [], laidByText := true, laidKinds := [.data, .data, .data, .data, .sentinel, .sentinel, .pinned], laidTests := true, laidLooks := .later }
def RoomlessUptoCardSaid : Prop := Claim7.holds Tryz.pinned (.plain (OpenSpec.upto roomlessSpec)) roomlessUptoCard

/-- THE SECOND FORM's CARD OF 'atlaskeep.Known'. -/
def knownUptoCard : Claim7 := { stood := { row := knownUptoRow, standIns := [], harness := (true, "69e707474c801d06f827ded41f2e0684a1aa86586873edd76f3588cdedeb2b2f"), looks := true }, kinds := [], alts := [], laidByText := true, laidKinds := [.data, .data, .data, .data, .sentinel, .sentinel, .pinned], laidTests := true, laidLooks := .later }
def KnownUptoCardSaid : Prop := Claim7.holds Tryz.pinned (.plain (OpenSpec.upto knownSpec)) knownUptoCard

/-- THE SECOND FORM's CARD OF 'atlaslaw.All'. -/
def allUptoCard : Claim7 := { stood := { row := allUptoRow, standIns := [], harness := (true, "69e707474c801d06f827ded41f2e0684a1aa86586873edd76f3588cdedeb2b2f"), looks := true }, kinds := [], alts := [], laidByText := true, laidKinds := [.data, .data, .data, .data, .sentinel, .sentinel, .pinned], laidTests := true, laidLooks := .later }
def AllUptoCardSaid : Prop := Claim7.holds Tryz.pinned (.plain (OpenSpec.upto allSpec)) allUptoCard

/-- THE SECOND FORM's CARD OF 'atlaskeep.One'. -/
def oneUptoCard : Claim7 := { stood := { row := oneUptoRow, standIns := [], harness := (true, "69e707474c801d06f827ded41f2e0684a1aa86586873edd76f3588cdedeb2b2f"), looks := true }, kinds := [], alts := [], laidByText := true, laidKinds := [.data, .data, .data, .data, .sentinel, .sentinel, .pinned], laidTests := true, laidLooks := .later }
def OneUptoCardSaid : Prop := Claim7.holds Tryz.pinned (.plain (OpenSpec.upto oneSpec)) oneUptoCard

/-- THE SECOND FORM's CARD OF 'atlaskeep.Settled'. -/
def settledUptoCard : Claim7 := { stood := { row := settledUptoRow, standIns := [], harness := (true, "69e707474c801d06f827ded41f2e0684a1aa86586873edd76f3588cdedeb2b2f"), looks := true }, kinds := [], alts := [], laidByText := true, laidKinds := [.data, .data, .data, .data, .sentinel, .sentinel, .pinned], laidTests := true, laidLooks := .later }
def SettledUptoCardSaid : Prop := Claim7.holds Tryz.pinned (.plain (OpenSpec.upto settledSpec)) settledUptoCard

/-- THE SECOND FORM's CARD OF 'atlaskeep.Fair'. -/
def fairUptoCard : Claim7 := { stood := { row := fairUptoRow, standIns := [], harness := (true, "69e707474c801d06f827ded41f2e0684a1aa86586873edd76f3588cdedeb2b2f"), looks := true }, kinds := [], alts := [], laidByText := true, laidKinds := [.data, .data, .data, .data, .sentinel, .sentinel, .pinned], laidTests := true, laidLooks := .later }
def FairUptoCardSaid : Prop := Claim7.holds Tryz.pinned (.plain (OpenSpec.upto fairSpec)) fairUptoCard
end Rows
end Go.Proofs.YtenaepdmlknlcaaGreatDoor
