/-
  DERIVED. GIVEN WITH THE SEED: THE CARDS: each row of YtecllfbadciaoaaGreatDoorRows.lean that lists a variable, with what it lists TIED to the program's text (the seventh form; the later family's looks); each row that meets fmt, with fmt's text TOLD by the authors' own Lean function (tested against real Go, not proved from fmt's source: count such statements apart). THE CARD IS WHAT COUNTS. Prove the row's statement (the work); the ties are given (YtecllfbadciaoaaGreatDoorTie.lean); close each card by the builder's one call (the guide's Derived/Test/ToyasCard.lean, 'card_holds'). Laid BY PROGRAM, IN A SANDBOX (cutbox-door.mjs). By AI agents, Wed Nov 11 2026. No macro, syntax, notation, axiom, sorry.
-/
import Derived.Test.YtecllfbadciaoaaGreatDoorRows
import GoSem.ClaimSeven
namespace Go.Proofs.YtecllfbadciaoaaGreatDoor
namespace Rows

/-- THE TIED CARD OF 'admissionlaw12.RecordDecodes'. -/
def recordDecodesCard : Claim7 := { stood := { row := recordDecodesRow, standIns := [], harness := (true, "b9eefcc092557c18613fe9dfcd9f412f1dac52ac805eb1e8041eb8ac634c109f"), looks := false }, kinds := [], alts := [], laidByText := true, laidKinds := [.data, .data, .data, .data, .pinned], laidTests := true, laidLooks := .later }
def RecordDecodesCardSaid : Prop := Claim7.holds Tryz.pinned (.plain (OpenSpec.ofChange recordDecodesSpec)) recordDecodesCard

/-- THE TIED CARD OF 'admissionlaw12.RecordBack'. -/
def recordBackCard : Claim7 := { stood := { row := recordBackRow, standIns := [], harness := (true, "b9eefcc092557c18613fe9dfcd9f412f1dac52ac805eb1e8041eb8ac634c109f"), looks := false }, kinds := [], alts := [], laidByText := true, laidKinds := [.data, .data, .data, .data, .pinned], laidTests := true, laidLooks := .later }
def RecordBackCardSaid : Prop := Claim7.holds Tryz.pinned (.plain (OpenSpec.ofChange recordBackSpec)) recordBackCard

/-- THE TIED CARD OF 'admissionlaw12.RecordLinks'. -/
def recordLinksCard : Claim7 := { stood := { row := recordLinksRow, standIns := [], harness := (true, "b9eefcc092557c18613fe9dfcd9f412f1dac52ac805eb1e8041eb8ac634c109f"), looks := false }, kinds := [], alts := [], laidByText := true, laidKinds := [.data, .data, .data, .data, .pinned], laidTests := true, laidLooks := .later }
def RecordLinksCardSaid : Prop := Claim7.holds Tryz.pinned (.plain (OpenSpec.ofChange recordLinksSpec)) recordLinksCard

/-- THE SECOND FORM's CARD OF 'admissionlaw12.RecordDecodes'. -/
def recordDecodesUptoCard : Claim7 := { stood := { row := recordDecodesUptoRow, standIns := [], harness := (true, "b9eefcc092557c18613fe9dfcd9f412f1dac52ac805eb1e8041eb8ac634c109f"), looks := false }, kinds := [], alts := [], laidByText := true, laidKinds := [.data, .data, .data, .data, .pinned], laidTests := true, laidLooks := .later }
def RecordDecodesUptoCardSaid : Prop := Claim7.holds Tryz.pinned (.plain (OpenSpec.upto recordDecodesSpec)) recordDecodesUptoCard

/-- THE SECOND FORM's CARD OF 'admissionlaw12.RecordBack'. -/
def recordBackUptoCard : Claim7 := { stood := { row := recordBackUptoRow, standIns := [], harness := (true, "b9eefcc092557c18613fe9dfcd9f412f1dac52ac805eb1e8041eb8ac634c109f"), looks := false }, kinds := [], alts := [], laidByText := true, laidKinds := [.data, .data, .data, .data, .pinned], laidTests := true, laidLooks := .later }
def RecordBackUptoCardSaid : Prop := Claim7.holds Tryz.pinned (.plain (OpenSpec.upto recordBackSpec)) recordBackUptoCard

/-- THE SECOND FORM's CARD OF 'admissionlaw12.RecordLinks'. -/
def recordLinksUptoCard : Claim7 := { stood := { row := recordLinksUptoRow, standIns := [], harness := (true, "b9eefcc092557c18613fe9dfcd9f412f1dac52ac805eb1e8041eb8ac634c109f"), looks := false }, kinds := [], alts := [], laidByText := true, laidKinds := [.data, .data, .data, .data, .pinned], laidTests := true, laidLooks := .later }
def RecordLinksUptoCardSaid : Prop := Claim7.holds Tryz.pinned (.plain (OpenSpec.upto recordLinksSpec)) recordLinksUptoCard
end Rows
end Go.Proofs.YtecllfbadciaoaaGreatDoor
