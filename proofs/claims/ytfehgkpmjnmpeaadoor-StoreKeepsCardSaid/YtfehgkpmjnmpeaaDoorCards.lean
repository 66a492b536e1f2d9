/-
  DERIVED. GIVEN WITH THE SEED: THE CARDS: each row of YtfehgkpmjnmpeaaDoorRows.lean that lists a variable, with what it lists TIED to the program's text (the seventh form; the later family's looks); each row that meets fmt, with fmt's text TOLD by the authors' own Lean function (tested against real Go, not proved from fmt's source: count such statements apart). THE CARD IS WHAT COUNTS. Prove the row's statement (the work); the ties are given (YtfehgkpmjnmpeaaDoorTie.lean); close each card by the builder's one call (the guide's Derived/Test/ToyasCard.lean, 'card_holds'). Laid BY PROGRAM, IN A SANDBOX (cutbox-door.mjs). By AI agents, Wed Nov 11 2026. No macro, syntax, notation, axiom, sorry.
-/
import Derived.Test.YtfehgkpmjnmpeaaDoorRows
import GoSem.ClaimSeven
namespace Go.Proofs.YtfehgkpmjnmpeaaDoor
namespace Rows

/-- THE TIED CARD OF 'admissionlaw05.StoreShapes'. -/
def storeShapesCard : Claim7 := { stood := { row := storeShapesRow, standIns := [], harness := (true, "22dfe29a0b95ef45417c7d846935cb2d3e13ae5bafb23ebcc9c3e933aa55423a"), looks := false }, kinds := [], alts := [], laidByText := true, laidKinds := [.data], laidTests := true, laidLooks := .later }
def StoreShapesCardSaid : Prop := Claim7.holds Tryd.pinned (.plain (OpenSpec.ofChange storeShapesSpec)) storeShapesCard

/-- THE TIED CARD OF 'admissionlaw05.StorePuts'. -/
def storePutsCard : Claim7 := { stood := { row := storePutsRow, standIns := [], harness := (true, "22dfe29a0b95ef45417c7d846935cb2d3e13ae5bafb23ebcc9c3e933aa55423a"), looks := false }, kinds := [], alts := [], laidByText := true, laidKinds := [.data], laidTests := true, laidLooks := .later }
def StorePutsCardSaid : Prop := Claim7.holds Tryd.pinned (.plain (OpenSpec.ofChange storePutsSpec)) storePutsCard

/-- THE TIED CARD OF 'admissionlaw05.StoreKeeps'. -/
def storeKeepsCard : Claim7 := { stood := { row := storeKeepsRow, standIns := [], harness := (true, "22dfe29a0b95ef45417c7d846935cb2d3e13ae5bafb23ebcc9c3e933aa55423a"), looks := false }, kinds := [], alts := [], laidByText := true, laidKinds := [.data], laidTests := true, laidLooks := .later }
def StoreKeepsCardSaid : Prop := Claim7.holds Tryd.pinned (.plain (OpenSpec.ofChange storeKeepsSpec)) storeKeepsCard

/-- THE TIED CARD OF 'admissionlaw05.StoreMerges'. -/
def storeMergesCard : Claim7 := { stood := { row := storeMergesRow, standIns := [], harness := (true, "22dfe29a0b95ef45417c7d846935cb2d3e13ae5bafb23ebcc9c3e933aa55423a"), looks := false }, kinds := [], alts := [], laidByText := true, laidKinds := [.data], laidTests := true, laidLooks := .later }
def StoreMergesCardSaid : Prop := Claim7.holds Tryd.pinned (.plain (OpenSpec.ofChange storeMergesSpec)) storeMergesCard

/-- THE SECOND FORM's CARD OF 'admissionlaw05.StoreShapes'. -/
def storeShapesUptoCard : Claim7 := { stood := { row := storeShapesUptoRow, standIns := [], harness := (true, "22dfe29a0b95ef45417c7d846935cb2d3e13ae5bafb23ebcc9c3e933aa55423a"), looks := false }, kinds := [], alts := [], laidByText := true, laidKinds := [.data], laidTests := true, laidLooks := .later }
def StoreShapesUptoCardSaid : Prop := Claim7.holds Tryd.pinned (.plain (OpenSpec.upto storeShapesSpec)) storeShapesUptoCard

/-- THE SECOND FORM's CARD OF 'admissionlaw05.StorePuts'. -/
def storePutsUptoCard : Claim7 := { stood := { row := storePutsUptoRow, standIns := [], harness := (true, "22dfe29a0b95ef45417c7d846935cb2d3e13ae5bafb23ebcc9c3e933aa55423a"), looks := false }, kinds := [], alts := [], laidByText := true, laidKinds := [.data], laidTests := true, laidLooks := .later }
def StorePutsUptoCardSaid : Prop := Claim7.holds Tryd.pinned (.plain (OpenSpec.upto storePutsSpec)) storePutsUptoCard

/-- THE SECOND FORM's CARD OF 'admissionlaw05.StoreKeeps'. -/
def storeKeepsUptoCard : Claim7 := { stood := { row := storeKeepsUptoRow, standIns := [], harness := (true, "22dfe29a0b95ef45417c7d846935cb2d3e13ae5bafb23ebcc9c3e933aa55423a"), looks := false }, kinds := [], alts := [], laidByText := true, laidKinds := [.data], laidTests := true, laidLooks := .later }
def StoreKeepsUptoCardSaid : Prop := Claim7.holds Tryd.pinned (.plain (OpenSpec.upto storeKeepsSpec)) storeKeepsUptoCard

/-- THE SECOND FORM's CARD OF 'admissionlaw05.StoreMerges'. -/
def storeMergesUptoCard : Claim7 := { stood := { row := storeMergesUptoRow, standIns := [], harness := (true, "22dfe29a0b95ef45417c7d846935cb2d3e13ae5bafb23ebcc9c3e933aa55423a"), looks := false }, kinds := [], alts := [], laidByText := true, laidKinds := [.data], laidTests := true, laidLooks := .later }
def StoreMergesUptoCardSaid : Prop := Claim7.holds Tryd.pinned (.plain (OpenSpec.upto storeMergesSpec)) storeMergesUptoCard
end Rows
end Go.Proofs.YtfehgkpmjnmpeaaDoor
