/-
  DERIVED. GIVEN WITH THE SEED: THE CARDS: each row of YthbcpcddanknhaaDoorRows.lean that lists a variable, with what it lists TIED to the program's text (the seventh form; the later family's looks); each row that meets fmt, with fmt's text TOLD by the authors' own Lean function (tested against real Go, not proved from fmt's source: count such statements apart). THE CARD IS WHAT COUNTS. Prove the row's statement (the work); the ties are given (YthbcpcddanknhaaDoorTie.lean); close each card by the builder's one call (the guide's Derived/Test/ToyasCard.lean, 'card_holds'). Laid BY PROGRAM, IN A SANDBOX (cutbox-door.mjs). By AI agents, Wed Nov 11 2026. No macro, syntax, notation, axiom, sorry.
-/
import Derived.Test.YthbcpcddanknhaaDoorRows
import GoSem.ClaimSeven
namespace Go.Proofs.YthbcpcddanknhaaDoor
namespace Rows

/-- THE TIED CARD OF 'admissionlaw09.KeytreeKeys'. -/
def keytreeKeysCard : Claim7 := { stood := { row := keytreeKeysRow, standIns := [], harness := (true, "15bee4277113dcfc2fac5850717abfd1ce8f129736b7a39deb0d195f93c89dbb"), looks := false }, kinds := [], alts := [], laidByText := true, laidKinds := [.data], laidTests := true, laidLooks := .later }
def KeytreeKeysCardSaid : Prop := Claim7.holds Tryd.pinned (.plain (OpenSpec.ofChange keytreeKeysSpec)) keytreeKeysCard

/-- THE TIED CARD OF 'admissionlaw09.KeytreeSigns'. -/
def keytreeSignsCard : Claim7 := { stood := { row := keytreeSignsRow, standIns := [], harness := (true, "15bee4277113dcfc2fac5850717abfd1ce8f129736b7a39deb0d195f93c89dbb"), looks := false }, kinds := [], alts := [], laidByText := true, laidKinds := [.data], laidTests := true, laidLooks := .later }
def KeytreeSignsCardSaid : Prop := Claim7.holds Tryd.pinned (.plain (OpenSpec.ofChange keytreeSignsSpec)) keytreeSignsCard

/-- THE TIED CARD OF 'admissionlaw09.KeytreeVerifies'. -/
def keytreeVerifiesCard : Claim7 := { stood := { row := keytreeVerifiesRow, standIns := [], harness := (true, "15bee4277113dcfc2fac5850717abfd1ce8f129736b7a39deb0d195f93c89dbb"), looks := false }, kinds := [], alts := [], laidByText := true, laidKinds := [.data], laidTests := true, laidLooks := .later }
def KeytreeVerifiesCardSaid : Prop := Claim7.holds Tryd.pinned (.plain (OpenSpec.ofChange keytreeVerifiesSpec)) keytreeVerifiesCard

/-- THE TIED CARD OF 'admissionlaw09.KeytreeChecks'. -/
def keytreeChecksCard : Claim7 := { stood := { row := keytreeChecksRow, standIns := [], harness := (true, "15bee4277113dcfc2fac5850717abfd1ce8f129736b7a39deb0d195f93c89dbb"), looks := false }, kinds := [], alts := [], laidByText := true, laidKinds := [.data], laidTests := true, laidLooks := .later }
def KeytreeChecksCardSaid : Prop := Claim7.holds Tryd.pinned (.plain (OpenSpec.ofChange keytreeChecksSpec)) keytreeChecksCard

/-- THE TIED CARD OF 'admissionlaw09.KeytreeSpoils'. -/
def keytreeSpoilsCard : Claim7 := { stood := { row := keytreeSpoilsRow, standIns := [], harness := (true, "15bee4277113dcfc2fac5850717abfd1ce8f129736b7a39deb0d195f93c89dbb"), looks := false }, kinds := [], alts := [], laidByText := true, laidKinds := [.data], laidTests := true, laidLooks := .later }
def KeytreeSpoilsCardSaid : Prop := Claim7.holds Tryd.pinned (.plain (OpenSpec.ofChange keytreeSpoilsSpec)) keytreeSpoilsCard

/-- THE TIED CARD OF 'admissionlaw09.KeytreeWords'. -/
def keytreeWordsCard : Claim7 := { stood := { row := keytreeWordsRow, standIns := [], harness := (true, "15bee4277113dcfc2fac5850717abfd1ce8f129736b7a39deb0d195f93c89dbb"), looks := false }, kinds := [], alts := [], laidByText := true, laidKinds := [.data, .data, .data, .data], laidTests := true, laidLooks := .later }
def KeytreeWordsCardSaid : Prop := Claim7.holds Tryd.pinned (.plain (OpenSpec.ofChange keytreeWordsSpec)) keytreeWordsCard

/-- THE SECOND FORM's CARD OF 'admissionlaw09.KeytreeKeys'. -/
def keytreeKeysUptoCard : Claim7 := { stood := { row := keytreeKeysUptoRow, standIns := [], harness := (true, "15bee4277113dcfc2fac5850717abfd1ce8f129736b7a39deb0d195f93c89dbb"), looks := false }, kinds := [], alts := [], laidByText := true, laidKinds := [.data], laidTests := true, laidLooks := .later }
def KeytreeKeysUptoCardSaid : Prop := Claim7.holds Tryd.pinned (.plain (OpenSpec.upto keytreeKeysSpec)) keytreeKeysUptoCard

/-- THE SECOND FORM's CARD OF 'admissionlaw09.KeytreeSigns'. -/
def keytreeSignsUptoCard : Claim7 := { stood := { row := keytreeSignsUptoRow, standIns := [], harness := (true, "15bee4277113dcfc2fac5850717abfd1ce8f129736b7a39deb0d195f93c89dbb"), looks := false }, kinds := [], alts := [], laidByText := true, laidKinds := [.data], laidTests := true, laidLooks := .later }
def KeytreeSignsUptoCardSaid : Prop := Claim7.holds Tryd.pinned (.plain (OpenSpec.upto keytreeSignsSpec)) keytreeSignsUptoCard

/-- THE SECOND FORM's CARD OF 'admissionlaw09.KeytreeVerifies'. -/
def keytreeVerifiesUptoCard : Claim7 := { stood := { row := keytreeVerifiesUptoRow, standIns := [], harness := (true, "15bee4277113dcfc2fac5850717abfd1ce8f129736b7a39deb0d195f93c89dbb"), looks := false }, kinds := [], alts := [], laidByText := true, laidKinds := [.data], laidTests := true, laidLooks := .later }
def KeytreeVerifiesUptoCardSaid : Prop := Claim7.holds Tryd.pinned (.plain (OpenSpec.upto keytreeVerifiesSpec)) keytreeVerifiesUptoCard

/-- THE SECOND FORM's CARD OF 'admissionlaw09.KeytreeChecks'. -/
def keytreeChecksUptoCard : Claim7 := { stood := { row := keytreeChecksUptoRow, standIns := [], harness := (true, "15bee4277113dcfc2fac5850717abfd1ce8f129736b7a39deb0d195f93c89dbb"), looks := false }, kinds := [], alts := [], laidByText := true, laidKinds := [.data], laidTests := true, laidLooks := .later }
def KeytreeChecksUptoCardSaid : Prop := Claim7.holds Tryd.pinned (.plain (OpenSpec.upto keytreeChecksSpec)) keytreeChecksUptoCard

/-- THE SECOND FORM's CARD OF 'admissionlaw09.KeytreeSpoils'. -/
def keytreeSpoilsUptoCard : Claim7 := { stood := { row := keytreeSpoilsUptoRow, standIns := [], harness := (true, "15bee4277113dcfc2fac5850717abfd1ce8f129736b7a39deb0d195f93c89dbb"), looks := false }, kinds := [], alts := [], laidByText := true, laidKinds := [.data], laidTests := true, laidLooks := .later }
def KeytreeSpoilsUptoCardSaid : Prop := Claim7.holds Tryd.pinned (.plain (OpenSpec.upto keytreeSpoilsSpec)) keytreeSpoilsUptoCard

/-- THE SECOND FORM's CARD OF 'admissionlaw09.KeytreeWords'. -/
def keytreeWordsUptoCard : Claim7 := { stood := { row := keytreeWordsUptoRow, standIns := [], harness := (true, "15bee4277113dcfc2fac5850717abfd1ce8f129736b7a39deb0d195f93c89dbb"), looks := false }, kinds := [], alts := [], laidByText := true, laidKinds := [.data, .data, .data, .data], laidTests := true, laidLooks := .later }
def KeytreeWordsUptoCardSaid : Prop := Claim7.holds Tryd.pinned (.plain (OpenSpec.upto keytreeWordsSpec)) keytreeWordsUptoCard
end Rows
end Go.Proofs.YthbcpcddanknhaaDoor
