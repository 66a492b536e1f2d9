/-
  DERIVED. GIVEN WITH THE SEED: THE CARDS: each row of YtbfgkbcpkldofaaDoorRows.lean that lists a variable, with what it lists TIED to the program's text (the seventh form; the later family's looks); each row that meets fmt, with fmt's text TOLD by the authors' own Lean function (tested against real Go, not proved from fmt's source: count such statements apart). THE CARD IS WHAT COUNTS. Prove the row's statement (the work); the ties are given (YtbfgkbcpkldofaaDoorTie.lean); close each card by the builder's one call (the guide's Derived/Test/ToyasCard.lean, 'card_holds'). Laid BY PROGRAM, IN A SANDBOX (cutbox-door.mjs). By AI agents, Wed Nov 11 2026. No macro, syntax, notation, axiom, sorry.
-/
import Derived.Test.YtbfgkbcpkldofaaDoorRows
import GoSem.ClaimSeven
namespace Go.Proofs.YtbfgkbcpkldofaaDoor
namespace Rows

/-- THE TIED CARD OF 'admissionlaw09.KeytreeSpoils'. -/
def keytreeSpoilsCard : Claim7 := { stood := { row := keytreeSpoilsRow, standIns := [], harness := (true, "5e68cdcf6c8d8bc307b4978a80946c98ce46836ce307edb7ce5da6574f0b6083"), looks := false }, kinds := [], alts := [], laidByText := true, laidKinds := [.data], laidTests := true, laidLooks := .later }
def KeytreeSpoilsCardSaid : Prop := Claim7.holds Tryd.pinned (.plain (OpenSpec.ofChange keytreeSpoilsSpec)) keytreeSpoilsCard

/-- THE TIED CARD OF 'admissionlaw09.KeytreeWords'. -/
def keytreeWordsCard : Claim7 := { stood := { row := keytreeWordsRow, standIns := [], harness := (true, "5e68cdcf6c8d8bc307b4978a80946c98ce46836ce307edb7ce5da6574f0b6083"), looks := false }, kinds := [], alts := [], laidByText := true, laidKinds := [.data, .data, .data, .data], laidTests := true, laidLooks := .later }
def KeytreeWordsCardSaid : Prop := Claim7.holds Tryd.pinned (.plain (OpenSpec.ofChange keytreeWordsSpec)) keytreeWordsCard

/-- THE TIED CARD OF 'admissionlaw10.EnvelopeMessages'. -/
def envelopeMessagesCard : Claim7 := { stood := { row := envelopeMessagesRow, standIns := [], harness := (true, "5e68cdcf6c8d8bc307b4978a80946c98ce46836ce307edb7ce5da6574f0b6083"), looks := false }, kinds := [], alts := [], laidByText := true, laidKinds := [.data], laidTests := true, laidLooks := .later }
def EnvelopeMessagesCardSaid : Prop := Claim7.holds Tryd.pinned (.plain (OpenSpec.ofChange envelopeMessagesSpec)) envelopeMessagesCard

/-- THE SECOND FORM's CARD OF 'admissionlaw09.KeytreeSpoils'. -/
def keytreeSpoilsUptoCard : Claim7 := { stood := { row := keytreeSpoilsUptoRow, standIns := [], harness := (true, "5e68cdcf6c8d8bc307b4978a80946c98ce46836ce307edb7ce5da6574f0b6083"), looks := false }, kinds := [], alts := [], laidByText := true, laidKinds := [.data], laidTests := true, laidLooks := .later }
def KeytreeSpoilsUptoCardSaid : Prop := Claim7.holds Tryd.pinned (.plain (OpenSpec.upto keytreeSpoilsSpec)) keytreeSpoilsUptoCard

/-- THE SECOND FORM's CARD OF 'admissionlaw09.KeytreeWords'. -/
def keytreeWordsUptoCard : Claim7 := { stood := { row := keytreeWordsUptoRow, standIns := [], harness := (true, "5e68cdcf6c8d8bc307b4978a80946c98ce46836ce307edb7ce5da6574f0b6083"), looks := false }, kinds := [], alts := [], laidByText := true, laidKinds := [.data, .data, .data, .data], laidTests := true, laidLooks := .later }
def KeytreeWordsUptoCardSaid : Prop := Claim7.holds Tryd.pinned (.plain (OpenSpec.upto keytreeWordsSpec)) keytreeWordsUptoCard

/-- THE SECOND FORM's CARD OF 'admissionlaw10.EnvelopeMessages'. -/
def envelopeMessagesUptoCard : Claim7 := { stood := { row := envelopeMessagesUptoRow, standIns := [], harness := (true, "5e68cdcf6c8d8bc307b4978a80946c98ce46836ce307edb7ce5da6574f0b6083"), looks := false }, kinds := [], alts := [], laidByText := true, laidKinds := [.data], laidTests := true, laidLooks := .later }
def EnvelopeMessagesUptoCardSaid : Prop := Claim7.holds Tryd.pinned (.plain (OpenSpec.upto envelopeMessagesSpec)) envelopeMessagesUptoCard
end Rows
end Go.Proofs.YtbfgkbcpkldofaaDoor
