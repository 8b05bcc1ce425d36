/-
  DERIVED. GIVEN WITH THE SEED: THE CARDS: each row of YtenaepdmlknlcaaDoorRows.lean that lists a variable, with what it lists TIED to the program's text (the seventh form; the later family's looks); each row that meets fmt, with fmt's text TOLD by the authors' own Lean function (tested against real Go, not proved from fmt's source: count such statements apart). THE CARD IS WHAT COUNTS. Prove the row's statement (the work); the ties are given (YtenaepdmlknlcaaDoorTie.lean); close each card by the builder's one call (the guide's Derived/Test/ToyasCard.lean, 'card_holds'). Laid BY PROGRAM, IN A SANDBOX (cutbox-door.mjs). By AI agents, Wed Nov 11 2026. No macro, syntax, notation, axiom, sorry.
-/
import Derived.Test.YtenaepdmlknlcaaDoorRows
import GoSem.ClaimSeven
namespace Go.Proofs.YtenaepdmlknlcaaDoor
namespace Rows

/-- THE TIED CARD OF 'atlaskeep.Boxed'. -/
def boxedCard : Claim7 := { stood := { row := boxedRow, standIns := [], harness := (true, "c77315a2678752ab1de014e60e5abe1aa62583e389a837c327ea45b0720cdbd3"), looks := false }, kinds := [], alts := [], laidByText := true, laidKinds := [.data, .data, .data], laidTests := true, laidLooks := .later }
def BoxedCardSaid : Prop := Claim7.holds Tryd.pinned (.plain (OpenSpec.ofChange boxedSpec)) boxedCard

/-- THE SECOND FORM's CARD OF 'atlaskeep.Boxed'. -/
def boxedUptoCard : Claim7 := { stood := { row := boxedUptoRow, standIns := [], harness := (true, "c77315a2678752ab1de014e60e5abe1aa62583e389a837c327ea45b0720cdbd3"), looks := false }, kinds := [], alts := [], laidByText := true, laidKinds := [.data, .data, .data], laidTests := true, laidLooks := .later }
def BoxedUptoCardSaid : Prop := Claim7.holds Tryd.pinned (.plain (OpenSpec.upto boxedSpec)) boxedUptoCard
end Rows
end Go.Proofs.YtenaepdmlknlcaaDoor
