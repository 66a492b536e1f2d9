/-
  DERIVED. GIVEN WITH THE SEED: THE CARDS: each row of YtdjknefbaclleaaGreatDoorRows.lean that lists a variable, with what it lists TIED to the program's text (the seventh form; the later family's looks); each row that meets fmt, with fmt's text TOLD by the authors' own Lean function (tested against real Go, not proved from fmt's source: count such statements apart). THE CARD IS WHAT COUNTS. Prove the row's statement (the work); the ties are given (YtdjknefbaclleaaGreatDoorTie.lean); close each card by the builder's one call (the guide's Derived/Test/ToyasCard.lean, 'card_holds'). Laid BY PROGRAM, IN A SANDBOX (cutbox-door.mjs). By AI agents, Wed Nov 11 2026. No macro, syntax, notation, axiom, sorry.
-/
import Derived.Test.YtdjknefbaclleaaGreatDoorRows
import GoSem.ClaimSeven
namespace Go.Proofs.YtdjknefbaclleaaGreatDoor
namespace Rows

/-- THE TIED CARD OF 'admissionlaw05.StoreSweepsAgain'. -/
def storeSweepsAgainCard : Claim7 := { stood := { row := storeSweepsAgainRow, standIns := [], harness := (true, "9b9fdb9d252277fa803959465507886e8a4f9e70981b48095180c1b07a27e726"), looks := false }, kinds := [], alts := [], laidByText := true, laidKinds := [.data, .data, .pinned], laidTests := true, laidLooks := .later }
def StoreSweepsAgainCardSaid : Prop := Claim7.holds Tryz.pinned (.plain (OpenSpec.ofChange storeSweepsAgainSpec)) storeSweepsAgainCard

/-- THE SECOND FORM's CARD OF 'admissionlaw05.StoreSweepsAgain'. -/
def storeSweepsAgainUptoCard : Claim7 := { stood := { row := storeSweepsAgainUptoRow, standIns := [], harness := (true, "9b9fdb9d252277fa803959465507886e8a4f9e70981b48095180c1b07a27e726"), looks := false }, kinds := [], alts := [], laidByText := true, laidKinds := [.data, .data, .pinned], laidTests := true, laidLooks := .later }
def StoreSweepsAgainUptoCardSaid : Prop := Claim7.holds Tryz.pinned (.plain (OpenSpec.upto storeSweepsAgainSpec)) storeSweepsAgainUptoCard
end Rows
end Go.Proofs.YtdjknefbaclleaaGreatDoor
