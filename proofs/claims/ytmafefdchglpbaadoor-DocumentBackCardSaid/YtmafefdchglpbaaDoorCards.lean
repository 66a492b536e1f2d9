/-
  DERIVED. GIVEN WITH THE SEED: THE CARDS: each row of YtmafefdchglpbaaDoorRows.lean that lists a variable, with what it lists TIED to the program's text (the seventh form; the later family's looks); each row that meets fmt, with fmt's text TOLD by the authors' own Lean function (tested against real Go, not proved from fmt's source: count such statements apart). THE CARD IS WHAT COUNTS. Prove the row's statement (the work); the ties are given (YtmafefdchglpbaaDoorTie.lean); close each card by the builder's one call (the guide's Derived/Test/ToyasCard.lean, 'card_holds'). Laid BY PROGRAM, IN A SANDBOX (cutbox-door.mjs). By AI agents, Wed Nov 11 2026. No macro, syntax, notation, axiom, sorry.
-/
import Derived.Test.YtmafefdchglpbaaDoorRows
import GoSem.ClaimSeven
namespace Go.Proofs.YtmafefdchglpbaaDoor
namespace Rows

/-- THE TIED CARD OF 'admissionlaw01.DigestTexts'. -/
def digestTextsCard : Claim7 := { stood := { row := digestTextsRow, standIns := [], harness := (true, "ef9b8d3147bcd5747825758417b56db01819945a6c4765904c26fb9d628961e1"), looks := false }, kinds := [], alts := [], laidByText := true, laidKinds := [.data], laidTests := true, laidLooks := .later }
def DigestTextsCardSaid : Prop := Claim7.holds Tryd.pinned (.plain (OpenSpec.ofChange digestTextsSpec)) digestTextsCard

/-- THE TIED CARD OF 'admissionlaw02.DocumentDecodes'. -/
def documentDecodesCard : Claim7 := { stood := { row := documentDecodesRow, standIns := [], harness := (true, "ef9b8d3147bcd5747825758417b56db01819945a6c4765904c26fb9d628961e1"), looks := false }, kinds := [], alts := [], laidByText := true, laidKinds := [.data, .pinned], laidTests := true, laidLooks := .later }
def DocumentDecodesCardSaid : Prop := Claim7.holds Tryd.pinned (.plain (OpenSpec.ofChange documentDecodesSpec)) documentDecodesCard

/-- THE TIED CARD OF 'admissionlaw02.DocumentBack'. -/
def documentBackCard : Claim7 := { stood := { row := documentBackRow, standIns := [], harness := (true, "ef9b8d3147bcd5747825758417b56db01819945a6c4765904c26fb9d628961e1"), looks := false }, kinds := [], alts := [], laidByText := true, laidKinds := [.data, .pinned], laidTests := true, laidLooks := .later }
def DocumentBackCardSaid : Prop := Claim7.holds Tryd.pinned (.plain (OpenSpec.ofChange documentBackSpec)) documentBackCard

/-- THE TIED CARD OF 'admissionlaw02.DocumentNumbers'. -/
def documentNumbersCard : Claim7 := { stood := { row := documentNumbersRow, standIns := [], harness := (true, "ef9b8d3147bcd5747825758417b56db01819945a6c4765904c26fb9d628961e1"), looks := false }, kinds := [], alts := [], laidByText := true, laidKinds := [.data, .data, .data], laidTests := true, laidLooks := .later }
def DocumentNumbersCardSaid : Prop := Claim7.holds Tryd.pinned (.plain (OpenSpec.ofChange documentNumbersSpec)) documentNumbersCard

/-- THE TIED CARD OF 'admissionlaw03.PatternPaths'. -/
def patternPathsCard : Claim7 := { stood := { row := patternPathsRow, standIns := [], harness := (true, "ef9b8d3147bcd5747825758417b56db01819945a6c4765904c26fb9d628961e1"), looks := false }, kinds := [], alts := [], laidByText := true, laidKinds := [.data, .pinned], laidTests := true, laidLooks := .later }
def PatternPathsCardSaid : Prop := Claim7.holds Tryd.pinned (.plain (OpenSpec.ofChange patternPathsSpec)) patternPathsCard

/-- THE TIED CARD OF 'admissionlaw03.PatternMatches'. -/
def patternMatchesCard : Claim7 := { stood := { row := patternMatchesRow, standIns := [], harness := (true, "ef9b8d3147bcd5747825758417b56db01819945a6c4765904c26fb9d628961e1"), looks := false }, kinds := [], alts := [], laidByText := true, laidKinds := [.data, .pinned], laidTests := true, laidLooks := .later }
def PatternMatchesCardSaid : Prop := Claim7.holds Tryd.pinned (.plain (OpenSpec.ofChange patternMatchesSpec)) patternMatchesCard

/-- THE SECOND FORM's CARD OF 'admissionlaw01.DigestTexts'. -/
def digestTextsUptoCard : Claim7 := { stood := { row := digestTextsUptoRow, standIns := [], harness := (true, "ef9b8d3147bcd5747825758417b56db01819945a6c4765904c26fb9d628961e1"), looks := false }, kinds := [], alts := [], laidByText := true, laidKinds := [.data], laidTests := true, laidLooks := .later }
def DigestTextsUptoCardSaid : Prop := Claim7.holds Tryd.pinned (.plain (OpenSpec.upto digestTextsSpec)) digestTextsUptoCard

/-- THE SECOND FORM's CARD OF 'admissionlaw02.DocumentDecodes'. -/
def documentDecodesUptoCard : Claim7 := { stood := { row := documentDecodesUptoRow, standIns := [], harness := (true, "ef9b8d3147bcd5747825758417b56db01819945a6c4765904c26fb9d628961e1"), looks := false }, kinds := [], alts := [], laidByText := true, laidKinds := [.data, .pinned], laidTests := true, laidLooks := .later }
def DocumentDecodesUptoCardSaid : Prop := Claim7.holds Tryd.pinned (.plain (OpenSpec.upto documentDecodesSpec)) documentDecodesUptoCard

/-- THE SECOND FORM's CARD OF 'admissionlaw02.DocumentBack'. -/
def documentBackUptoCard : Claim7 := { stood := { row := documentBackUptoRow, standIns := [], harness := (true, "ef9b8d3147bcd5747825758417b56db01819945a6c4765904c26fb9d628961e1"), looks := false }, kinds := [], alts := [], laidByText := true, laidKinds := [.data, .pinned], laidTests := true, laidLooks := .later }
def DocumentBackUptoCardSaid : Prop := Claim7.holds Tryd.pinned (.plain (OpenSpec.upto documentBackSpec)) documentBackUptoCard

/-- THE SECOND FORM's CARD OF 'admissionlaw02.DocumentNumbers'. -/
def documentNumbersUptoCard : Claim7 := { stood := { row := documentNumbersUptoRow, standIns := [], harness := (true, "ef9b8d3147bcd5747825758417b56db01819945a6c4765904c26fb9d628961e1"), looks := false }, kinds := [], alts := [], laidByText := true, laidKinds := [.data, .data, .data], laidTests := true, laidLooks := .later }
def DocumentNumbersUptoCardSaid : Prop := Claim7.holds Tryd.pinned (.plain (OpenSpec.upto documentNumbersSpec)) documentNumbersUptoCard

/-- THE SECOND FORM's CARD OF 'admissionlaw03.PatternPaths'. -/
def patternPathsUptoCard : Claim7 := { stood := { row := patternPathsUptoRow, standIns := [], harness := (true, "ef9b8d3147bcd5747825758417b56db01819945a6c4765904c26fb9d628961e1"), looks := false }, kinds := [], alts := [], laidByText := true, laidKinds := [.data, .pinned], laidTests := true, laidLooks := .later }
def PatternPathsUptoCardSaid : Prop := Claim7.holds Tryd.pinned (.plain (OpenSpec.upto patternPathsSpec)) patternPathsUptoCard

/-- THE SECOND FORM's CARD OF 'admissionlaw03.PatternMatches'. -/
def patternMatchesUptoCard : Claim7 := { stood := { row := patternMatchesUptoRow, standIns := [], harness := (true, "ef9b8d3147bcd5747825758417b56db01819945a6c4765904c26fb9d628961e1"), looks := false }, kinds := [], alts := [], laidByText := true, laidKinds := [.data, .pinned], laidTests := true, laidLooks := .later }
def PatternMatchesUptoCardSaid : Prop := Claim7.holds Tryd.pinned (.plain (OpenSpec.upto patternMatchesSpec)) patternMatchesUptoCard
end Rows
end Go.Proofs.YtmafefdchglpbaaDoor
