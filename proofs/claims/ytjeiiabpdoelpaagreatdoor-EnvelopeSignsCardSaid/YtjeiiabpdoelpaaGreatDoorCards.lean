/-
  DERIVED. GIVEN WITH THE SEED: THE CARDS: each row of YtjeiiabpdoelpaaGreatDoorRows.lean that lists a variable, with what it lists TIED to the program's text (the seventh form; the later family's looks); each row that meets fmt, with fmt's text TOLD by the authors' own Lean function (tested against real Go, not proved from fmt's source: count such statements apart). THE CARD IS WHAT COUNTS. Prove the row's statement (the work); the ties are given (YtjeiiabpdoelpaaGreatDoorTie.lean); close each card by the builder's one call (the guide's Derived/Test/ToyasCard.lean, 'card_holds'). Laid BY PROGRAM, IN A SANDBOX (cutbox-door.mjs). By AI agents, Wed Nov 11 2026. No macro, syntax, notation, axiom, sorry.
-/
import Derived.Test.YtjeiiabpdoelpaaGreatDoorRows
import GoSem.ClaimSeven
namespace Go.Proofs.YtjeiiabpdoelpaaGreatDoor
namespace Rows

/-- THE TIED CARD OF 'admissionlaw10.EnvelopeValid'. -/
def envelopeValidCard : Claim7 := { stood := { row := envelopeValidRow, standIns := [], harness := (true, "37e3d34049a3f162ed6c832f199df4900d765752208178dbbcd63a874be2fc40"), looks := false }, kinds := [], alts := [], laidByText := true, laidKinds := [.data], laidTests := true, laidLooks := .later }
def EnvelopeValidCardSaid : Prop := Claim7.holds Tryz.pinned (.plain (OpenSpec.ofChange envelopeValidSpec)) envelopeValidCard

/-- THE TIED CARD OF 'admissionlaw10.EnvelopeSigns'. -/
def envelopeSignsCard : Claim7 := { stood := { row := envelopeSignsRow, standIns := [], harness := (true, "37e3d34049a3f162ed6c832f199df4900d765752208178dbbcd63a874be2fc40"), looks := false }, kinds := [], alts := [], laidByText := true, laidKinds := [.data], laidTests := true, laidLooks := .later }
def EnvelopeSignsCardSaid : Prop := Claim7.holds Tryz.pinned (.plain (OpenSpec.ofChange envelopeSignsSpec)) envelopeSignsCard

/-- THE TIED CARD OF 'admissionlaw10.EnvelopeCounts'. -/
def envelopeCountsCard : Claim7 := { stood := { row := envelopeCountsRow, standIns := [], harness := (true, "37e3d34049a3f162ed6c832f199df4900d765752208178dbbcd63a874be2fc40"), looks := false }, kinds := [], alts := [], laidByText := true, laidKinds := [.data], laidTests := true, laidLooks := .later }
def EnvelopeCountsCardSaid : Prop := Claim7.holds Tryz.pinned (.plain (OpenSpec.ofChange envelopeCountsSpec)) envelopeCountsCard

/-- THE TIED CARD OF 'admissionlaw10.EnvelopeJoins'. -/
def envelopeJoinsCard : Claim7 := { stood := { row := envelopeJoinsRow, standIns := [], harness := (true, "37e3d34049a3f162ed6c832f199df4900d765752208178dbbcd63a874be2fc40"), looks := false }, kinds := [], alts := [], laidByText := true, laidKinds := [.data], laidTests := true, laidLooks := .later }
def EnvelopeJoinsCardSaid : Prop := Claim7.holds Tryz.pinned (.plain (OpenSpec.ofChange envelopeJoinsSpec)) envelopeJoinsCard

/-- THE TIED CARD OF 'admissionlaw10.EnvelopeUnites'. -/
def envelopeUnitesCard : Claim7 := { stood := { row := envelopeUnitesRow, standIns := [], harness := (true, "37e3d34049a3f162ed6c832f199df4900d765752208178dbbcd63a874be2fc40"), looks := false }, kinds := [], alts := [], laidByText := true, laidKinds := [.data], laidTests := true, laidLooks := .later }
def EnvelopeUnitesCardSaid : Prop := Claim7.holds Tryz.pinned (.plain (OpenSpec.ofChange envelopeUnitesSpec)) envelopeUnitesCard

/-- THE TIED CARD OF 'admissionlaw10.EnvelopeEncodes'. -/
def envelopeEncodesCard : Claim7 := { stood := { row := envelopeEncodesRow, standIns := [], harness := (true, "37e3d34049a3f162ed6c832f199df4900d765752208178dbbcd63a874be2fc40"), looks := false }, kinds := [], alts := [], laidByText := true, laidKinds := [.data, .data, .data, .data, .data, .pinned], laidTests := true, laidLooks := .later }
def EnvelopeEncodesCardSaid : Prop := Claim7.holds Tryz.pinned (.plain (OpenSpec.ofChange envelopeEncodesSpec)) envelopeEncodesCard

/-- THE TIED CARD OF 'admissionlaw10.EnvelopeBack'. -/
def envelopeBackCard : Claim7 := { stood := { row := envelopeBackRow, standIns := [], harness := (true, "37e3d34049a3f162ed6c832f199df4900d765752208178dbbcd63a874be2fc40"), looks := false }, kinds := [], alts := [], laidByText := true, laidKinds := [.data, .data, .data, .data, .data, .pinned], laidTests := true, laidLooks := .later }
def EnvelopeBackCardSaid : Prop := Claim7.holds Tryz.pinned (.plain (OpenSpec.ofChange envelopeBackSpec)) envelopeBackCard

/-- THE SECOND FORM's CARD OF 'admissionlaw10.EnvelopeValid'. -/
def envelopeValidUptoCard : Claim7 := { stood := { row := envelopeValidUptoRow, standIns := [], harness := (true, "37e3d34049a3f162ed6c832f199df4900d765752208178dbbcd63a874be2fc40"), looks := false }, kinds := [], alts := [], laidByText := true, laidKinds := [.data], laidTests := true, laidLooks := .later }
def EnvelopeValidUptoCardSaid : Prop := Claim7.holds Tryz.pinned (.plain (OpenSpec.upto envelopeValidSpec)) envelopeValidUptoCard

/-- THE SECOND FORM's CARD OF 'admissionlaw10.EnvelopeSigns'. -/
def envelopeSignsUptoCard : Claim7 := { stood := { row := envelopeSignsUptoRow, standIns := [], harness := (true, "37e3d34049a3f162ed6c832f199df4900d765752208178dbbcd63a874be2fc40"), looks := false }, kinds := [], alts := [], laidByText := true, laidKinds := [.data], laidTests := true, laidLooks := .later }
def EnvelopeSignsUptoCardSaid : Prop := Claim7.holds Tryz.pinned (.plain (OpenSpec.upto envelopeSignsSpec)) envelopeSignsUptoCard

/-- THE SECOND FORM's CARD OF 'admissionlaw10.EnvelopeCounts'. -/
def envelopeCountsUptoCard : Claim7 := { stood := { row := envelopeCountsUptoRow, standIns := [], harness := (true, "37e3d34049a3f162ed6c832f199df4900d765752208178dbbcd63a874be2fc40"), looks := false }, kinds := [], alts := [], laidByText := true, laidKinds := [.data], laidTests := true, laidLooks := .later }
def EnvelopeCountsUptoCardSaid : Prop := Claim7.holds Tryz.pinned (.plain (OpenSpec.upto envelopeCountsSpec)) envelopeCountsUptoCard

/-- THE SECOND FORM's CARD OF 'admissionlaw10.EnvelopeJoins'. -/
def envelopeJoinsUptoCard : Claim7 := { stood := { row := envelopeJoinsUptoRow, standIns := [], harness := (true, "37e3d34049a3f162ed6c832f199df4900d765752208178dbbcd63a874be2fc40"), looks := false }, kinds := [], alts := [], laidByText := true, laidKinds := [.data], laidTests := true, laidLooks := .later }
def EnvelopeJoinsUptoCardSaid : Prop := Claim7.holds Tryz.pinned (.plain (OpenSpec.upto envelopeJoinsSpec)) envelopeJoinsUptoCard

/-- THE SECOND FORM's CARD OF 'admissionlaw10.EnvelopeUnites'. -/
def envelopeUnitesUptoCard : Claim7 := { stood := { row := envelopeUnitesUptoRow, standIns := [], harness := (true, "37e3d34049a3f162ed6c832f199df4900d765752208178dbbcd63a874be2fc40"), looks := false }, kinds := [], alts := [], laidByText := true, laidKinds := [.data], laidTests := true, laidLooks := .later }
def EnvelopeUnitesUptoCardSaid : Prop := Claim7.holds Tryz.pinned (.plain (OpenSpec.upto envelopeUnitesSpec)) envelopeUnitesUptoCard

/-- THE SECOND FORM's CARD OF 'admissionlaw10.EnvelopeEncodes'. -/
def envelopeEncodesUptoCard : Claim7 := { stood := { row := envelopeEncodesUptoRow, standIns := [], harness := (true, "37e3d34049a3f162ed6c832f199df4900d765752208178dbbcd63a874be2fc40"), looks := false }, kinds := [], alts := [], laidByText := true, laidKinds := [.data, .data, .data, .data, .data, .pinned], laidTests := true, laidLooks := .later }
def EnvelopeEncodesUptoCardSaid : Prop := Claim7.holds Tryz.pinned (.plain (OpenSpec.upto envelopeEncodesSpec)) envelopeEncodesUptoCard

/-- THE SECOND FORM's CARD OF 'admissionlaw10.EnvelopeBack'. -/
def envelopeBackUptoCard : Claim7 := { stood := { row := envelopeBackUptoRow, standIns := [], harness := (true, "37e3d34049a3f162ed6c832f199df4900d765752208178dbbcd63a874be2fc40"), looks := false }, kinds := [], alts := [], laidByText := true, laidKinds := [.data, .data, .data, .data, .data, .pinned], laidTests := true, laidLooks := .later }
def EnvelopeBackUptoCardSaid : Prop := Claim7.holds Tryz.pinned (.plain (OpenSpec.upto envelopeBackSpec)) envelopeBackUptoCard
end Rows
end Go.Proofs.YtjeiiabpdoelpaaGreatDoor
