/-
  DERIVED. GIVEN WITH THE SEED: THE CARDS: each row of YtceeilojcifgeaaDoorRows.lean that lists a variable, with what it lists TIED to the program's text (the seventh form; the later family's looks); each row that meets fmt, with fmt's text TOLD by the authors' own Lean function (tested against real Go, not proved from fmt's source: count such statements apart). THE CARD IS WHAT COUNTS. Prove the row's statement (the work); the ties are given (YtceeilojcifgeaaDoorTie.lean); close each card by the builder's one call (the guide's Derived/Test/ToyasCard.lean, 'card_holds'). Laid BY PROGRAM, IN A SANDBOX (cutbox-door.mjs). By AI agents, Wed Nov 11 2026. No macro, syntax, notation, axiom, sorry.
-/
import Derived.Test.YtceeilojcifgeaaDoorRows
import GoSem.ClaimSeven
namespace Go.Proofs.YtceeilojcifgeaaDoor
namespace Rows

/-- THE TIED CARD OF 'admissionlaw06.VersionValid'. -/
def versionValidCard : Claim7 := { stood := { row := versionValidRow, standIns := [], harness := (true, "80eff0b3c0488822a501457c56e981ed5ed8c19a26f51f79ad31c50394e363b0"), looks := false }, kinds := [], alts := [], laidByText := true, laidKinds := [.data, .pinned], laidTests := true, laidLooks := .later }
def VersionValidCardSaid : Prop := Claim7.holds Tryd.pinned (.plain (OpenSpec.ofChange versionValidSpec)) versionValidCard

/-- THE TIED CARD OF 'admissionlaw06.VersionTotal'. -/
def versionTotalCard : Claim7 := { stood := { row := versionTotalRow, standIns := [], harness := (true, "80eff0b3c0488822a501457c56e981ed5ed8c19a26f51f79ad31c50394e363b0"), looks := false }, kinds := [], alts := [], laidByText := true, laidKinds := [.data, .pinned], laidTests := true, laidLooks := .later }
def VersionTotalCardSaid : Prop := Claim7.holds Tryd.pinned (.plain (OpenSpec.ofChange versionTotalSpec)) versionTotalCard

/-- THE TIED CARD OF 'admissionlaw06.VersionLatest'. -/
def versionLatestCard : Claim7 := { stood := { row := versionLatestRow, standIns := [], harness := (true, "80eff0b3c0488822a501457c56e981ed5ed8c19a26f51f79ad31c50394e363b0"), looks := false }, kinds := [], alts := [], laidByText := true, laidKinds := [.data, .pinned], laidTests := true, laidLooks := .later }
def VersionLatestCardSaid : Prop := Claim7.holds Tryd.pinned (.plain (OpenSpec.ofChange versionLatestSpec)) versionLatestCard

/-- THE TIED CARD OF 'admissionlaw06.VersionNumbers'. -/
def versionNumbersCard : Claim7 := { stood := { row := versionNumbersRow, standIns := [], harness := (true, "80eff0b3c0488822a501457c56e981ed5ed8c19a26f51f79ad31c50394e363b0"), looks := false }, kinds := [], alts := [], laidByText := true, laidKinds := [.data, .pinned], laidTests := true, laidLooks := .later }
def VersionNumbersCardSaid : Prop := Claim7.holds Tryd.pinned (.plain (OpenSpec.ofChange versionNumbersSpec)) versionNumbersCard

/-- THE SECOND FORM's CARD OF 'admissionlaw06.VersionValid'. -/
def versionValidUptoCard : Claim7 := { stood := { row := versionValidUptoRow, standIns := [], harness := (true, "80eff0b3c0488822a501457c56e981ed5ed8c19a26f51f79ad31c50394e363b0"), looks := false }, kinds := [], alts := [], laidByText := true, laidKinds := [.data, .pinned], laidTests := true, laidLooks := .later }
def VersionValidUptoCardSaid : Prop := Claim7.holds Tryd.pinned (.plain (OpenSpec.upto versionValidSpec)) versionValidUptoCard

/-- THE SECOND FORM's CARD OF 'admissionlaw06.VersionTotal'. -/
def versionTotalUptoCard : Claim7 := { stood := { row := versionTotalUptoRow, standIns := [], harness := (true, "80eff0b3c0488822a501457c56e981ed5ed8c19a26f51f79ad31c50394e363b0"), looks := false }, kinds := [], alts := [], laidByText := true, laidKinds := [.data, .pinned], laidTests := true, laidLooks := .later }
def VersionTotalUptoCardSaid : Prop := Claim7.holds Tryd.pinned (.plain (OpenSpec.upto versionTotalSpec)) versionTotalUptoCard

/-- THE SECOND FORM's CARD OF 'admissionlaw06.VersionLatest'. -/
def versionLatestUptoCard : Claim7 := { stood := { row := versionLatestUptoRow, standIns := [], harness := (true, "80eff0b3c0488822a501457c56e981ed5ed8c19a26f51f79ad31c50394e363b0"), looks := false }, kinds := [], alts := [], laidByText := true, laidKinds := [.data, .pinned], laidTests := true, laidLooks := .later }
def VersionLatestUptoCardSaid : Prop := Claim7.holds Tryd.pinned (.plain (OpenSpec.upto versionLatestSpec)) versionLatestUptoCard

/-- THE SECOND FORM's CARD OF 'admissionlaw06.VersionNumbers'. -/
def versionNumbersUptoCard : Claim7 := { stood := { row := versionNumbersUptoRow, standIns := [], harness := (true, "80eff0b3c0488822a501457c56e981ed5ed8c19a26f51f79ad31c50394e363b0"), looks := false }, kinds := [], alts := [], laidByText := true, laidKinds := [.data, .pinned], laidTests := true, laidLooks := .later }
def VersionNumbersUptoCardSaid : Prop := Claim7.holds Tryd.pinned (.plain (OpenSpec.upto versionNumbersSpec)) versionNumbersUptoCard
end Rows
end Go.Proofs.YtceeilojcifgeaaDoor
