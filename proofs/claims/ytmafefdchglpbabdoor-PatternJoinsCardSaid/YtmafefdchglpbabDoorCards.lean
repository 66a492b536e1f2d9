/-
  DERIVED. GIVEN WITH THE SEED: THE CARDS: each row of YtmafefdchglpbabDoorRows.lean that lists a variable, with what it lists TIED to the program's text (the seventh form; the later family's looks); each row that meets fmt, with fmt's text TOLD by the authors' own Lean function (tested against real Go, not proved from fmt's source: count such statements apart). THE CARD IS WHAT COUNTS. Prove the row's statement (the work); the ties are given (YtmafefdchglpbabDoorTie.lean); close each card by the builder's one call (the guide's Derived/Test/ToyasCard.lean, 'card_holds'). Laid BY PROGRAM, IN A SANDBOX (cutbox-door.mjs). By AI agents, Wed Nov 11 2026. No macro, syntax, notation, axiom, sorry.
-/
import Derived.Test.YtmafefdchglpbabDoorRows
import GoSem.ClaimSeven
namespace Go.Proofs.YtmafefdchglpbabDoor
namespace Rows

/-- THE TIED CARD OF 'admissionlaw03.PatternJoins'. -/
def patternJoinsCard : Claim7 := { stood := { row := patternJoinsRow, standIns := [], harness := (true, "c5f959eef014ee36916c51258e44b41823607711912d653b34eb81f17adf38a9"), looks := false }, kinds := [], alts := [], laidByText := true, laidKinds := [.data, .pinned], laidTests := true, laidLooks := .later }
def PatternJoinsCardSaid : Prop := Claim7.holds Tryd.pinned (.plain (OpenSpec.ofChange patternJoinsSpec)) patternJoinsCard

/-- THE TIED CARD OF 'admissionlaw03.PatternAll'. -/
def patternAllCard : Claim7 := { stood := { row := patternAllRow, standIns := [], harness := (true, "c5f959eef014ee36916c51258e44b41823607711912d653b34eb81f17adf38a9"), looks := false }, kinds := [], alts := [], laidByText := true, laidKinds := [.data, .pinned], laidTests := true, laidLooks := .later }
def PatternAllCardSaid : Prop := Claim7.holds Tryd.pinned (.plain (OpenSpec.ofChange patternAllSpec)) patternAllCard

/-- THE TIED CARD OF 'admissionlaw03.PatternLiterals'. -/
def patternLiteralsCard : Claim7 := { stood := { row := patternLiteralsRow, standIns := [], harness := (true, "c5f959eef014ee36916c51258e44b41823607711912d653b34eb81f17adf38a9"), looks := false }, kinds := [], alts := [], laidByText := true, laidKinds := [.data, .pinned], laidTests := true, laidLooks := .later }
def PatternLiteralsCardSaid : Prop := Claim7.holds Tryd.pinned (.plain (OpenSpec.ofChange patternLiteralsSpec)) patternLiteralsCard

/-- THE TIED CARD OF 'admissionlaw03.PatternRelocates'. -/
def patternRelocatesCard : Claim7 := { stood := { row := patternRelocatesRow, standIns := [], harness := (true, "c5f959eef014ee36916c51258e44b41823607711912d653b34eb81f17adf38a9"), looks := false }, kinds := [], alts := [], laidByText := true, laidKinds := [.data, .pinned], laidTests := true, laidLooks := .later }
def PatternRelocatesCardSaid : Prop := Claim7.holds Tryd.pinned (.plain (OpenSpec.ofChange patternRelocatesSpec)) patternRelocatesCard

/-- THE TIED CARD OF 'admissionlaw03.PatternReturns'. -/
def patternReturnsCard : Claim7 := { stood := { row := patternReturnsRow, standIns := [], harness := (true, "c5f959eef014ee36916c51258e44b41823607711912d653b34eb81f17adf38a9"), looks := false }, kinds := [], alts := [], laidByText := true, laidKinds := [.data, .pinned], laidTests := true, laidLooks := .later }
def PatternReturnsCardSaid : Prop := Claim7.holds Tryd.pinned (.plain (OpenSpec.ofChange patternReturnsSpec)) patternReturnsCard

/-- THE TIED CARD OF 'admissionlaw03.PatternOverlaps'. -/
def patternOverlapsCard : Claim7 := { stood := { row := patternOverlapsRow, standIns := [], harness := (true, "c5f959eef014ee36916c51258e44b41823607711912d653b34eb81f17adf38a9"), looks := false }, kinds := [], alts := [], laidByText := true, laidKinds := [.data, .pinned], laidTests := true, laidLooks := .later }
def PatternOverlapsCardSaid : Prop := Claim7.holds Tryd.pinned (.plain (OpenSpec.ofChange patternOverlapsSpec)) patternOverlapsCard

/-- THE SECOND FORM's CARD OF 'admissionlaw03.PatternJoins'. -/
def patternJoinsUptoCard : Claim7 := { stood := { row := patternJoinsUptoRow, standIns := [], harness := (true, "c5f959eef014ee36916c51258e44b41823607711912d653b34eb81f17adf38a9"), looks := false }, kinds := [], alts := [], laidByText := true, laidKinds := [.data, .pinned], laidTests := true, laidLooks := .later }
def PatternJoinsUptoCardSaid : Prop := Claim7.holds Tryd.pinned (.plain (OpenSpec.upto patternJoinsSpec)) patternJoinsUptoCard

/-- THE SECOND FORM's CARD OF 'admissionlaw03.PatternAll'. -/
def patternAllUptoCard : Claim7 := { stood := { row := patternAllUptoRow, standIns := [], harness := (true, "c5f959eef014ee36916c51258e44b41823607711912d653b34eb81f17adf38a9"), looks := false }, kinds := [], alts := [], laidByText := true, laidKinds := [.data, .pinned], laidTests := true, laidLooks := .later }
def PatternAllUptoCardSaid : Prop := Claim7.holds Tryd.pinned (.plain (OpenSpec.upto patternAllSpec)) patternAllUptoCard

/-- THE SECOND FORM's CARD OF 'admissionlaw03.PatternLiterals'. -/
def patternLiteralsUptoCard : Claim7 := { stood := { row := patternLiteralsUptoRow, standIns := [], harness := (true, "c5f959eef014ee36916c51258e44b41823607711912d653b34eb81f17adf38a9"), looks := false }, kinds := [], alts := [], laidByText := true, laidKinds := [.data, .pinned], laidTests := true, laidLooks := .later }
def PatternLiteralsUptoCardSaid : Prop := Claim7.holds Tryd.pinned (.plain (OpenSpec.upto patternLiteralsSpec)) patternLiteralsUptoCard

/-- THE SECOND FORM's CARD OF 'admissionlaw03.PatternRelocates'. -/
def patternRelocatesUptoCard : Claim7 := { stood := { row := patternRelocatesUptoRow, standIns := [], harness := (true, "c5f959eef014ee36916c51258e44b41823607711912d653b34eb81f17adf38a9"), looks := false }, kinds := [], alts := [], laidByText := true, laidKinds := [.data, .pinned], laidTests := true, laidLooks := .later }
def PatternRelocatesUptoCardSaid : Prop := Claim7.holds Tryd.pinned (.plain (OpenSpec.upto patternRelocatesSpec)) patternRelocatesUptoCard

/-- THE SECOND FORM's CARD OF 'admissionlaw03.PatternReturns'. -/
def patternReturnsUptoCard : Claim7 := { stood := { row := patternReturnsUptoRow, standIns := [], harness := (true, "c5f959eef014ee36916c51258e44b41823607711912d653b34eb81f17adf38a9"), looks := false }, kinds := [], alts := [], laidByText := true, laidKinds := [.data, .pinned], laidTests := true, laidLooks := .later }
def PatternReturnsUptoCardSaid : Prop := Claim7.holds Tryd.pinned (.plain (OpenSpec.upto patternReturnsSpec)) patternReturnsUptoCard

/-- THE SECOND FORM's CARD OF 'admissionlaw03.PatternOverlaps'. -/
def patternOverlapsUptoCard : Claim7 := { stood := { row := patternOverlapsUptoRow, standIns := [], harness := (true, "c5f959eef014ee36916c51258e44b41823607711912d653b34eb81f17adf38a9"), looks := false }, kinds := [], alts := [], laidByText := true, laidKinds := [.data, .pinned], laidTests := true, laidLooks := .later }
def PatternOverlapsUptoCardSaid : Prop := Claim7.holds Tryd.pinned (.plain (OpenSpec.upto patternOverlapsSpec)) patternOverlapsUptoCard
end Rows
end Go.Proofs.YtmafefdchglpbabDoor
