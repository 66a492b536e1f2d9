/-
  DERIVED. GIVEN WITH THE SEED: THE CARDS: each row of YtkookkhlgllneaaDoorRows.lean that lists a variable, with what it lists TIED to the program's text (the seventh form; the later family's looks); each row that meets fmt, with fmt's text TOLD by the authors' own Lean function (tested against real Go, not proved from fmt's source: count such statements apart). THE CARD IS WHAT COUNTS. Prove the row's statement (the work); the ties are given (YtkookkhlgllneaaDoorTie.lean); close each card by the builder's one call (the guide's Derived/Test/ToyasCard.lean, 'card_holds'). Laid BY PROGRAM, IN A SANDBOX (cutbox-door.mjs). By AI agents, Wed Nov 11 2026. No macro, syntax, notation, axiom, sorry.
-/
import Derived.Test.YtkookkhlgllneaaDoorRows
import GoSem.ClaimSeven
namespace Go.Proofs.YtkookkhlgllneaaDoor
namespace Rows

/-- THE TIED CARD OF 'admissionlaw04.SnapshotMakes'. -/
def snapshotMakesCard : Claim7 := { stood := { row := snapshotMakesRow, standIns := [], harness := (true, "3632df4c16f69320cc8efd4d5b6a5ff7496c8ba4d4a76472e899fbfd26907197"), looks := false }, kinds := [], alts := [], laidByText := true, laidKinds := [.data, .pinned], laidTests := true, laidLooks := .later }
def SnapshotMakesCardSaid : Prop := Claim7.holds Tryd.pinned (.plain (OpenSpec.ofChange snapshotMakesSpec)) snapshotMakesCard

/-- THE TIED CARD OF 'admissionlaw04.SnapshotInverse'. -/
def snapshotInverseCard : Claim7 := { stood := { row := snapshotInverseRow, standIns := [], harness := (true, "3632df4c16f69320cc8efd4d5b6a5ff7496c8ba4d4a76472e899fbfd26907197"), looks := false }, kinds := [], alts := [], laidByText := true, laidKinds := [.data, .pinned], laidTests := true, laidLooks := .later }
def SnapshotInverseCardSaid : Prop := Claim7.holds Tryd.pinned (.plain (OpenSpec.ofChange snapshotInverseSpec)) snapshotInverseCard

/-- THE TIED CARD OF 'admissionlaw04.SnapshotChain'. -/
def snapshotChainCard : Claim7 := { stood := { row := snapshotChainRow, standIns := [], harness := (true, "3632df4c16f69320cc8efd4d5b6a5ff7496c8ba4d4a76472e899fbfd26907197"), looks := false }, kinds := [], alts := [], laidByText := true, laidKinds := [.data, .pinned], laidTests := true, laidLooks := .later }
def SnapshotChainCardSaid : Prop := Claim7.holds Tryd.pinned (.plain (OpenSpec.ofChange snapshotChainSpec)) snapshotChainCard

/-- THE TIED CARD OF 'admissionlaw04.SnapshotSelects'. -/
def snapshotSelectsCard : Claim7 := { stood := { row := snapshotSelectsRow, standIns := [], harness := (true, "3632df4c16f69320cc8efd4d5b6a5ff7496c8ba4d4a76472e899fbfd26907197"), looks := false }, kinds := [], alts := [], laidByText := true, laidKinds := [.data, .pinned], laidTests := true, laidLooks := .later }
def SnapshotSelectsCardSaid : Prop := Claim7.holds Tryd.pinned (.plain (OpenSpec.ofChange snapshotSelectsSpec)) snapshotSelectsCard

/-- THE TIED CARD OF 'admissionlaw04.SnapshotLines'. -/
def snapshotLinesCard : Claim7 := { stood := { row := snapshotLinesRow, standIns := [], harness := (true, "3632df4c16f69320cc8efd4d5b6a5ff7496c8ba4d4a76472e899fbfd26907197"), looks := false }, kinds := [], alts := [], laidByText := true, laidKinds := [.data, .pinned], laidTests := true, laidLooks := .later }
def SnapshotLinesCardSaid : Prop := Claim7.holds Tryd.pinned (.plain (OpenSpec.ofChange snapshotLinesSpec)) snapshotLinesCard

/-- THE TIED CARD OF 'admissionlaw04.SnapshotRevisions'. -/
def snapshotRevisionsCard : Claim7 := { stood := { row := snapshotRevisionsRow, standIns := [], harness := (true, "3632df4c16f69320cc8efd4d5b6a5ff7496c8ba4d4a76472e899fbfd26907197"), looks := false }, kinds := [], alts := [], laidByText := true, laidKinds := [.data, .data, .pinned], laidTests := true, laidLooks := .later }
def SnapshotRevisionsCardSaid : Prop := Claim7.holds Tryd.pinned (.plain (OpenSpec.ofChange snapshotRevisionsSpec)) snapshotRevisionsCard

/-- THE TIED CARD OF 'admissionlaw03.PatternOverlaps'. -/
def patternOverlapsCard : Claim7 := { stood := { row := patternOverlapsRow, standIns := [], harness := (true, "3632df4c16f69320cc8efd4d5b6a5ff7496c8ba4d4a76472e899fbfd26907197"), looks := false }, kinds := [], alts := [], laidByText := true, laidKinds := [.data, .pinned], laidTests := true, laidLooks := .later }
def PatternOverlapsCardSaid : Prop := Claim7.holds Tryd.pinned (.plain (OpenSpec.ofChange patternOverlapsSpec)) patternOverlapsCard

/-- THE TIED CARD OF 'admissionlaw03.PatternMeets'. -/
def patternMeetsCard : Claim7 := { stood := { row := patternMeetsRow, standIns := [], harness := (true, "3632df4c16f69320cc8efd4d5b6a5ff7496c8ba4d4a76472e899fbfd26907197"), looks := false }, kinds := [], alts := [], laidByText := true, laidKinds := [.data, .pinned], laidTests := true, laidLooks := .later }
def PatternMeetsCardSaid : Prop := Claim7.holds Tryd.pinned (.plain (OpenSpec.ofChange patternMeetsSpec)) patternMeetsCard

/-- THE SECOND FORM's CARD OF 'admissionlaw04.SnapshotMakes'. -/
def snapshotMakesUptoCard : Claim7 := { stood := { row := snapshotMakesUptoRow, standIns := [], harness := (true, "3632df4c16f69320cc8efd4d5b6a5ff7496c8ba4d4a76472e899fbfd26907197"), looks := false }, kinds := [], alts := [], laidByText := true, laidKinds := [.data, .pinned], laidTests := true, laidLooks := .later }
def SnapshotMakesUptoCardSaid : Prop := Claim7.holds Tryd.pinned (.plain (OpenSpec.upto snapshotMakesSpec)) snapshotMakesUptoCard

/-- THE SECOND FORM's CARD OF 'admissionlaw04.SnapshotInverse'. -/
def snapshotInverseUptoCard : Claim7 := { stood := { row := snapshotInverseUptoRow, standIns := [], harness := (true, "3632df4c16f69320cc8efd4d5b6a5ff7496c8ba4d4a76472e899fbfd26907197"), looks := false }, kinds := [], alts := [], laidByText := true, laidKinds := [.data, .pinned], laidTests := true, laidLooks := .later }
def SnapshotInverseUptoCardSaid : Prop := Claim7.holds Tryd.pinned (.plain (OpenSpec.upto snapshotInverseSpec)) snapshotInverseUptoCard

/-- THE SECOND FORM's CARD OF 'admissionlaw04.SnapshotChain'. -/
def snapshotChainUptoCard : Claim7 := { stood := { row := snapshotChainUptoRow, standIns := [], harness := (true, "3632df4c16f69320cc8efd4d5b6a5ff7496c8ba4d4a76472e899fbfd26907197"), looks := false }, kinds := [], alts := [], laidByText := true, laidKinds := [.data, .pinned], laidTests := true, laidLooks := .later }
def SnapshotChainUptoCardSaid : Prop := Claim7.holds Tryd.pinned (.plain (OpenSpec.upto snapshotChainSpec)) snapshotChainUptoCard

/-- THE SECOND FORM's CARD OF 'admissionlaw04.SnapshotSelects'. -/
def snapshotSelectsUptoCard : Claim7 := { stood := { row := snapshotSelectsUptoRow, standIns := [], harness := (true, "3632df4c16f69320cc8efd4d5b6a5ff7496c8ba4d4a76472e899fbfd26907197"), looks := false }, kinds := [], alts := [], laidByText := true, laidKinds := [.data, .pinned], laidTests := true, laidLooks := .later }
def SnapshotSelectsUptoCardSaid : Prop := Claim7.holds Tryd.pinned (.plain (OpenSpec.upto snapshotSelectsSpec)) snapshotSelectsUptoCard

/-- THE SECOND FORM's CARD OF 'admissionlaw04.SnapshotLines'. -/
def snapshotLinesUptoCard : Claim7 := { stood := { row := snapshotLinesUptoRow, standIns := [], harness := (true, "3632df4c16f69320cc8efd4d5b6a5ff7496c8ba4d4a76472e899fbfd26907197"), looks := false }, kinds := [], alts := [], laidByText := true, laidKinds := [.data, .pinned], laidTests := true, laidLooks := .later }
def SnapshotLinesUptoCardSaid : Prop := Claim7.holds Tryd.pinned (.plain (OpenSpec.upto snapshotLinesSpec)) snapshotLinesUptoCard

/-- THE SECOND FORM's CARD OF 'admissionlaw04.SnapshotRevisions'. -/
def snapshotRevisionsUptoCard : Claim7 := { stood := { row := snapshotRevisionsUptoRow, standIns := [], harness := (true, "3632df4c16f69320cc8efd4d5b6a5ff7496c8ba4d4a76472e899fbfd26907197"), looks := false }, kinds := [], alts := [], laidByText := true, laidKinds := [.data, .data, .pinned], laidTests := true, laidLooks := .later }
def SnapshotRevisionsUptoCardSaid : Prop := Claim7.holds Tryd.pinned (.plain (OpenSpec.upto snapshotRevisionsSpec)) snapshotRevisionsUptoCard

/-- THE SECOND FORM's CARD OF 'admissionlaw03.PatternOverlaps'. -/
def patternOverlapsUptoCard : Claim7 := { stood := { row := patternOverlapsUptoRow, standIns := [], harness := (true, "3632df4c16f69320cc8efd4d5b6a5ff7496c8ba4d4a76472e899fbfd26907197"), looks := false }, kinds := [], alts := [], laidByText := true, laidKinds := [.data, .pinned], laidTests := true, laidLooks := .later }
def PatternOverlapsUptoCardSaid : Prop := Claim7.holds Tryd.pinned (.plain (OpenSpec.upto patternOverlapsSpec)) patternOverlapsUptoCard

/-- THE SECOND FORM's CARD OF 'admissionlaw03.PatternMeets'. -/
def patternMeetsUptoCard : Claim7 := { stood := { row := patternMeetsUptoRow, standIns := [], harness := (true, "3632df4c16f69320cc8efd4d5b6a5ff7496c8ba4d4a76472e899fbfd26907197"), looks := false }, kinds := [], alts := [], laidByText := true, laidKinds := [.data, .pinned], laidTests := true, laidLooks := .later }
def PatternMeetsUptoCardSaid : Prop := Claim7.holds Tryd.pinned (.plain (OpenSpec.upto patternMeetsSpec)) patternMeetsUptoCard
end Rows
end Go.Proofs.YtkookkhlgllneaaDoor
