/-
  DERIVED. GIVEN WITH THE SEED: THE CARDS: each row of YtcligodahogpkaaGreatDoorRows.lean that lists a variable, with what it lists TIED to the program's text (the seventh form; the later family's looks); each row that meets fmt, with fmt's text TOLD by the authors' own Lean function (tested against real Go, not proved from fmt's source: count such statements apart). THE CARD IS WHAT COUNTS. Prove the row's statement (the work); the ties are given (YtcligodahogpkaaGreatDoorTie.lean); close each card by the builder's one call (the guide's Derived/Test/ToyasCard.lean, 'card_holds'). Laid BY PROGRAM, IN A SANDBOX (cutbox-door.mjs). By AI agents, Wed Nov 11 2026. No macro, syntax, notation, axiom, sorry.
-/
import Derived.Test.YtcligodahogpkaaGreatDoorRows
import GoSem.ClaimSeven
namespace Go.Proofs.YtcligodahogpkaaGreatDoor
namespace Rows

/-- THE TIED CARD OF 'admissionlaw10.EnvelopeJoins'. -/
def envelopeJoinsCard : Claim7 := { stood := { row := envelopeJoinsRow, standIns := [], harness := (true, "1e64a7e3ee2a1b28401959f318469cfa80a1096ec2471711411019900eb384e5"), looks := false }, kinds := [], alts := [], laidByText := true, laidKinds := [.data], laidTests := true, laidLooks := .later }
def EnvelopeJoinsCardSaid : Prop := Claim7.holds Tryz.pinned (.plain (OpenSpec.ofChange envelopeJoinsSpec)) envelopeJoinsCard

/-- THE TIED CARD OF 'admissionlaw10.EnvelopeUnites'. -/
def envelopeUnitesCard : Claim7 := { stood := { row := envelopeUnitesRow, standIns := [], harness := (true, "1e64a7e3ee2a1b28401959f318469cfa80a1096ec2471711411019900eb384e5"), looks := false }, kinds := [], alts := [], laidByText := true, laidKinds := [.data], laidTests := true, laidLooks := .later }
def EnvelopeUnitesCardSaid : Prop := Claim7.holds Tryz.pinned (.plain (OpenSpec.ofChange envelopeUnitesSpec)) envelopeUnitesCard

/-- THE TIED CARD OF 'admissionlaw10.EnvelopeEncodes'. -/
def envelopeEncodesCard : Claim7 := { stood := { row := envelopeEncodesRow, standIns := [], harness := (true, "1e64a7e3ee2a1b28401959f318469cfa80a1096ec2471711411019900eb384e5"), looks := false }, kinds := [], alts := [], laidByText := true, laidKinds := [.data, .data, .data, .data, .data, .pinned], laidTests := true, laidLooks := .later }
def EnvelopeEncodesCardSaid : Prop := Claim7.holds Tryz.pinned (.plain (OpenSpec.ofChange envelopeEncodesSpec)) envelopeEncodesCard

/-- THE TIED CARD OF 'admissionlaw10.EnvelopeBack'. -/
def envelopeBackCard : Claim7 := { stood := { row := envelopeBackRow, standIns := [], harness := (true, "1e64a7e3ee2a1b28401959f318469cfa80a1096ec2471711411019900eb384e5"), looks := false }, kinds := [], alts := [], laidByText := true, laidKinds := [.data, .data, .data, .data, .data, .pinned], laidTests := true, laidLooks := .later }
def EnvelopeBackCardSaid : Prop := Claim7.holds Tryz.pinned (.plain (OpenSpec.ofChange envelopeBackSpec)) envelopeBackCard

/-- THE SECOND FORM's CARD OF 'admissionlaw10.EnvelopeJoins'. -/
def envelopeJoinsUptoCard : Claim7 := { stood := { row := envelopeJoinsUptoRow, standIns := [], harness := (true, "1e64a7e3ee2a1b28401959f318469cfa80a1096ec2471711411019900eb384e5"), looks := false }, kinds := [], alts := [], laidByText := true, laidKinds := [.data], laidTests := true, laidLooks := .later }
def EnvelopeJoinsUptoCardSaid : Prop := Claim7.holds Tryz.pinned (.plain (OpenSpec.upto envelopeJoinsSpec)) envelopeJoinsUptoCard

/-- THE SECOND FORM's CARD OF 'admissionlaw10.EnvelopeUnites'. -/
def envelopeUnitesUptoCard : Claim7 := { stood := { row := envelopeUnitesUptoRow, standIns := [], harness := (true, "1e64a7e3ee2a1b28401959f318469cfa80a1096ec2471711411019900eb384e5"), looks := false }, kinds := [], alts := [], laidByText := true, laidKinds := [.data], laidTests := true, laidLooks := .later }
def EnvelopeUnitesUptoCardSaid : Prop := Claim7.holds Tryz.pinned (.plain (OpenSpec.upto envelopeUnitesSpec)) envelopeUnitesUptoCard

/-- THE SECOND FORM's CARD OF 'admissionlaw10.EnvelopeEncodes'. -/
def envelopeEncodesUptoCard : Claim7 := { stood := { row := envelopeEncodesUptoRow, standIns := [], harness := (true, "1e64a7e3ee2a1b28401959f318469cfa80a1096ec2471711411019900eb384e5"), looks := false }, kinds := [], alts := [], laidByText := true, laidKinds := [.data, .data, .data, .data, .data, .pinned], laidTests := true, laidLooks := .later }
def EnvelopeEncodesUptoCardSaid : Prop := Claim7.holds Tryz.pinned (.plain (OpenSpec.upto envelopeEncodesSpec)) envelopeEncodesUptoCard

/-- THE SECOND FORM's CARD OF 'admissionlaw10.EnvelopeBack'. -/
def envelopeBackUptoCard : Claim7 := { stood := { row := envelopeBackUptoRow, standIns := [], harness := (true, "1e64a7e3ee2a1b28401959f318469cfa80a1096ec2471711411019900eb384e5"), looks := false }, kinds := [], alts := [], laidByText := true, laidKinds := [.data, .data, .data, .data, .data, .pinned], laidTests := true, laidLooks := .later }
def EnvelopeBackUptoCardSaid : Prop := Claim7.holds Tryz.pinned (.plain (OpenSpec.upto envelopeBackSpec)) envelopeBackUptoCard
end Rows
end Go.Proofs.YtcligodahogpkaaGreatDoor
