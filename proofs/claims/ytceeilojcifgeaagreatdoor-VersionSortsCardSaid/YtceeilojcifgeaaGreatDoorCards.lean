/-
  DERIVED. GIVEN WITH THE SEED: THE CARDS: each row of YtceeilojcifgeaaGreatDoorRows.lean that lists a variable, with what it lists TIED to the program's text (the seventh form; the later family's looks); each row that meets fmt, with fmt's text TOLD by the authors' own Lean function (tested against real Go, not proved from fmt's source: count such statements apart). THE CARD IS WHAT COUNTS. Prove the row's statement (the work); the ties are given (YtceeilojcifgeaaGreatDoorTie.lean); close each card by the builder's one call (the guide's Derived/Test/ToyasCard.lean, 'card_holds'). Laid BY PROGRAM, IN A SANDBOX (cutbox-door.mjs). By AI agents, Wed Nov 11 2026. No macro, syntax, notation, axiom, sorry.
-/
import Derived.Test.YtceeilojcifgeaaGreatDoorRows
import GoSem.ClaimSeven
namespace Go.Proofs.YtceeilojcifgeaaGreatDoor
namespace Rows

/-- THE TIED CARD OF 'admissionlaw06.VersionCompares'. -/
def versionComparesCard : Claim7 := { stood := { row := versionComparesRow, standIns := [], harness := (true, "75f8a82afae516e4afbae4729bca536dcdd487f10eab3d59f78e22087d97abd6"), looks := false }, kinds := [], alts := [], laidByText := true, laidKinds := [.data, .pinned], laidTests := true, laidLooks := .later }
def VersionComparesCardSaid : Prop := Claim7.holds Tryz.pinned (.plain (OpenSpec.ofChange versionComparesSpec)) versionComparesCard

/-- THE TIED CARD OF 'admissionlaw06.VersionKeys'. -/
def versionKeysCard : Claim7 := { stood := { row := versionKeysRow, standIns := [], harness := (true, "75f8a82afae516e4afbae4729bca536dcdd487f10eab3d59f78e22087d97abd6"), looks := false }, kinds := [], alts := [], laidByText := true, laidKinds := [.data, .pinned], laidTests := true, laidLooks := .later }
def VersionKeysCardSaid : Prop := Claim7.holds Tryz.pinned (.plain (OpenSpec.ofChange versionKeysSpec)) versionKeysCard

/-- THE TIED CARD OF 'admissionlaw06.VersionRefuses'. -/
def versionRefusesCard : Claim7 := { stood := { row := versionRefusesRow, standIns := [], harness := (true, "75f8a82afae516e4afbae4729bca536dcdd487f10eab3d59f78e22087d97abd6"), looks := false }, kinds := [], alts := [], laidByText := true, laidKinds := [.data, .pinned], laidTests := true, laidLooks := .later }
def VersionRefusesCardSaid : Prop := Claim7.holds Tryz.pinned (.plain (OpenSpec.ofChange versionRefusesSpec)) versionRefusesCard

/-- THE TIED CARD OF 'admissionlaw06.VersionSorts'. -/
def versionSortsCard : Claim7 := { stood := { row := versionSortsRow, standIns := [], harness := (true, "75f8a82afae516e4afbae4729bca536dcdd487f10eab3d59f78e22087d97abd6"), looks := false }, kinds := [], alts := [], laidByText := true, laidKinds := [.data, .pinned], laidTests := true, laidLooks := .later }
def VersionSortsCardSaid : Prop := Claim7.holds Tryz.pinned (.plain (OpenSpec.ofChange versionSortsSpec)) versionSortsCard

/-- THE SECOND FORM's CARD OF 'admissionlaw06.VersionCompares'. -/
def versionComparesUptoCard : Claim7 := { stood := { row := versionComparesUptoRow, standIns := [], harness := (true, "75f8a82afae516e4afbae4729bca536dcdd487f10eab3d59f78e22087d97abd6"), looks := false }, kinds := [], alts := [], laidByText := true, laidKinds := [.data, .pinned], laidTests := true, laidLooks := .later }
def VersionComparesUptoCardSaid : Prop := Claim7.holds Tryz.pinned (.plain (OpenSpec.upto versionComparesSpec)) versionComparesUptoCard

/-- THE SECOND FORM's CARD OF 'admissionlaw06.VersionKeys'. -/
def versionKeysUptoCard : Claim7 := { stood := { row := versionKeysUptoRow, standIns := [], harness := (true, "75f8a82afae516e4afbae4729bca536dcdd487f10eab3d59f78e22087d97abd6"), looks := false }, kinds := [], alts := [], laidByText := true, laidKinds := [.data, .pinned], laidTests := true, laidLooks := .later }
def VersionKeysUptoCardSaid : Prop := Claim7.holds Tryz.pinned (.plain (OpenSpec.upto versionKeysSpec)) versionKeysUptoCard

/-- THE SECOND FORM's CARD OF 'admissionlaw06.VersionRefuses'. -/
def versionRefusesUptoCard : Claim7 := { stood := { row := versionRefusesUptoRow, standIns := [], harness := (true, "75f8a82afae516e4afbae4729bca536dcdd487f10eab3d59f78e22087d97abd6"), looks := false }, kinds := [], alts := [], laidByText := true, laidKinds := [.data, .pinned], laidTests := true, laidLooks := .later }
def VersionRefusesUptoCardSaid : Prop := Claim7.holds Tryz.pinned (.plain (OpenSpec.upto versionRefusesSpec)) versionRefusesUptoCard

/-- THE SECOND FORM's CARD OF 'admissionlaw06.VersionSorts'. -/
def versionSortsUptoCard : Claim7 := { stood := { row := versionSortsUptoRow, standIns := [], harness := (true, "75f8a82afae516e4afbae4729bca536dcdd487f10eab3d59f78e22087d97abd6"), looks := false }, kinds := [], alts := [], laidByText := true, laidKinds := [.data, .pinned], laidTests := true, laidLooks := .later }
def VersionSortsUptoCardSaid : Prop := Claim7.holds Tryz.pinned (.plain (OpenSpec.upto versionSortsSpec)) versionSortsUptoCard
end Rows
end Go.Proofs.YtceeilojcifgeaaGreatDoor
