/-
  DERIVED. GIVEN WITH THE SEED: THE CARDS: each row of YtaeobegaodhpcaaGreatDoorRows.lean that lists a variable, with what it lists TIED to the program's text (the seventh form; the later family's looks); each row that meets fmt, with fmt's text TOLD by the authors' own Lean function (tested against real Go, not proved from fmt's source: count such statements apart). THE CARD IS WHAT COUNTS. Prove the row's statement (the work); the ties are given (YtaeobegaodhpcaaGreatDoorTie.lean); close each card by the builder's one call (the guide's Derived/Test/ToyasCard.lean, 'card_holds'). Laid BY PROGRAM, IN A SANDBOX (cutbox-door.mjs). By AI agents, Wed Nov 11 2026. No macro, syntax, notation, axiom, sorry.
-/
import Derived.Test.YtaeobegaodhpcaaGreatDoorRows
import GoSem.ClaimSeven
namespace Go.Proofs.YtaeobegaodhpcaaGreatDoor
namespace Rows

/-- THE TIED CARD OF 'admissionlaw10.EnvelopeEncodes'. -/
def envelopeEncodesCard : Claim7 := { stood := { row := envelopeEncodesRow, standIns := [], harness := (true, "4171e4920cbf744ee26817e4c0b8932d7ba10025075770e02a9732b0734acb8f"), looks := false }, kinds := [], alts := [], laidByText := true, laidKinds := [.data, .data, .data, .data, .data, .pinned], laidTests := true, laidLooks := .later }
def EnvelopeEncodesCardSaid : Prop := Claim7.holds Tryz.pinned (.plain (OpenSpec.ofChange envelopeEncodesSpec)) envelopeEncodesCard

/-- THE TIED CARD OF 'admissionlaw10.EnvelopeBack'. -/
def envelopeBackCard : Claim7 := { stood := { row := envelopeBackRow, standIns := [], harness := (true, "4171e4920cbf744ee26817e4c0b8932d7ba10025075770e02a9732b0734acb8f"), looks := false }, kinds := [], alts := [], laidByText := true, laidKinds := [.data, .data, .data, .data, .data, .pinned], laidTests := true, laidLooks := .later }
def EnvelopeBackCardSaid : Prop := Claim7.holds Tryz.pinned (.plain (OpenSpec.ofChange envelopeBackSpec)) envelopeBackCard

/-- THE SECOND FORM's CARD OF 'admissionlaw10.EnvelopeEncodes'. -/
def envelopeEncodesUptoCard : Claim7 := { stood := { row := envelopeEncodesUptoRow, standIns := [], harness := (true, "4171e4920cbf744ee26817e4c0b8932d7ba10025075770e02a9732b0734acb8f"), looks := false }, kinds := [], alts := [], laidByText := true, laidKinds := [.data, .data, .data, .data, .data, .pinned], laidTests := true, laidLooks := .later }
def EnvelopeEncodesUptoCardSaid : Prop := Claim7.holds Tryz.pinned (.plain (OpenSpec.upto envelopeEncodesSpec)) envelopeEncodesUptoCard

/-- THE SECOND FORM's CARD OF 'admissionlaw10.EnvelopeBack'. -/
def envelopeBackUptoCard : Claim7 := { stood := { row := envelopeBackUptoRow, standIns := [], harness := (true, "4171e4920cbf744ee26817e4c0b8932d7ba10025075770e02a9732b0734acb8f"), looks := false }, kinds := [], alts := [], laidByText := true, laidKinds := [.data, .data, .data, .data, .data, .pinned], laidTests := true, laidLooks := .later }
def EnvelopeBackUptoCardSaid : Prop := Claim7.holds Tryz.pinned (.plain (OpenSpec.upto envelopeBackSpec)) envelopeBackUptoCard
end Rows
end Go.Proofs.YtaeobegaodhpcaaGreatDoor
