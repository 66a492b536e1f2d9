/-
  DERIVED. GIVEN WITH THE SEED: THE CARDS: each row of YtbbeeajkclbaaaaDoorRows.lean that lists a variable, with what it lists TIED to the program's text (the seventh form; the later family's looks); each row that meets fmt, with fmt's text TOLD by the authors' own Lean function (tested against real Go, not proved from fmt's source: count such statements apart). THE CARD IS WHAT COUNTS. Prove the row's statement (the work); the ties are given (YtbbeeajkclbaaaaDoorTie.lean); close each card by the builder's one call (the guide's Derived/Test/ToyasCard.lean, 'card_holds'). Laid BY PROGRAM, IN A SANDBOX (cutbox-door.mjs). By AI agents, Wed Nov 11 2026. No macro, syntax, notation, axiom, sorry.
-/
import Derived.Test.YtbbeeajkclbaaaaDoorRows
import GoSem.ClaimSeven
namespace Go.Proofs.YtbbeeajkclbaaaaDoor
namespace Rows

/-- THE TIED CARD OF 'admissionlaw12.RecordScopes'. -/
def recordScopesCard : Claim7 := { stood := { row := recordScopesRow, standIns := [], harness := (true, "1d254cb608f4074c7d2606fa89199c6bc687344a360fffda92799b076b24ab84"), looks := false }, kinds := [], alts := [], laidByText := true, laidKinds := [.data, .data, .data, .data, .pinned], laidTests := true, laidLooks := .later }
def RecordScopesCardSaid : Prop := Claim7.holds Tryd.pinned (.plain (OpenSpec.ofChange recordScopesSpec)) recordScopesCard

/-- THE TIED CARD OF 'admissionlaw12.RecordEncodes'. -/
def recordEncodesCard : Claim7 := { stood := { row := recordEncodesRow, standIns := [], harness := (true, "1d254cb608f4074c7d2606fa89199c6bc687344a360fffda92799b076b24ab84"), looks := false }, kinds := [], alts := [], laidByText := true, laidKinds := [.data, .data, .data, .data, .pinned], laidTests := true, laidLooks := .later }
def RecordEncodesCardSaid : Prop := Claim7.holds Tryd.pinned (.plain (OpenSpec.ofChange recordEncodesSpec)) recordEncodesCard

/-- THE SECOND FORM's CARD OF 'admissionlaw12.RecordScopes'. -/
def recordScopesUptoCard : Claim7 := { stood := { row := recordScopesUptoRow, standIns := [], harness := (true, "1d254cb608f4074c7d2606fa89199c6bc687344a360fffda92799b076b24ab84"), looks := false }, kinds := [], alts := [], laidByText := true, laidKinds := [.data, .data, .data, .data, .pinned], laidTests := true, laidLooks := .later }
def RecordScopesUptoCardSaid : Prop := Claim7.holds Tryd.pinned (.plain (OpenSpec.upto recordScopesSpec)) recordScopesUptoCard

/-- THE SECOND FORM's CARD OF 'admissionlaw12.RecordEncodes'. -/
def recordEncodesUptoCard : Claim7 := { stood := { row := recordEncodesUptoRow, standIns := [], harness := (true, "1d254cb608f4074c7d2606fa89199c6bc687344a360fffda92799b076b24ab84"), looks := false }, kinds := [], alts := [], laidByText := true, laidKinds := [.data, .data, .data, .data, .pinned], laidTests := true, laidLooks := .later }
def RecordEncodesUptoCardSaid : Prop := Claim7.holds Tryd.pinned (.plain (OpenSpec.upto recordEncodesSpec)) recordEncodesUptoCard
end Rows
end Go.Proofs.YtbbeeajkclbaaaaDoor
