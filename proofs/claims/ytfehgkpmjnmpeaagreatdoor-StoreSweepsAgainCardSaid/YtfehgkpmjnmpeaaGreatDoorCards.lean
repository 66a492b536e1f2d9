/-
  DERIVED. GIVEN WITH THE SEED: THE CARDS: each row of YtfehgkpmjnmpeaaGreatDoorRows.lean that lists a variable, with what it lists TIED to the program's text (the seventh form; the later family's looks); each row that meets fmt, with fmt's text TOLD by the authors' own Lean function (tested against real Go, not proved from fmt's source: count such statements apart). THE CARD IS WHAT COUNTS. Prove the row's statement (the work); the ties are given (YtfehgkpmjnmpeaaGreatDoorTie.lean); close each card by the builder's one call (the guide's Derived/Test/ToyasCard.lean, 'card_holds'). Laid BY PROGRAM, IN A SANDBOX (cutbox-door.mjs). By AI agents, Wed Nov 11 2026. No macro, syntax, notation, axiom, sorry.
-/
import Derived.Test.YtfehgkpmjnmpeaaGreatDoorRows
import GoSem.ClaimSeven
namespace Go.Proofs.YtfehgkpmjnmpeaaGreatDoor
namespace Rows

/-- THE TIED CARD OF 'admissionlaw05.StoreCloses'. -/
def storeClosesCard : Claim7 := { stood := { row := storeClosesRow, standIns := [], harness := (true, "2c19d1e91194a01714f99ecbdb7b0654ffd82d2054c4ba88ef21990729eb5c49"), looks := false }, kinds := [], alts := [], laidByText := true, laidKinds := [.data, .data, .pinned], laidTests := true, laidLooks := .later }
def StoreClosesCardSaid : Prop := Claim7.holds Tryz.pinned (.plain (OpenSpec.ofChange storeClosesSpec)) storeClosesCard

/-- THE TIED CARD OF 'admissionlaw05.StoreReaches'. -/
def storeReachesCard : Claim7 := { stood := { row := storeReachesRow, standIns := [], harness := (true, "2c19d1e91194a01714f99ecbdb7b0654ffd82d2054c4ba88ef21990729eb5c49"), looks := false }, kinds := [], alts := [], laidByText := true, laidKinds := [.data, .data, .pinned], laidTests := true, laidLooks := .later }
def StoreReachesCardSaid : Prop := Claim7.holds Tryz.pinned (.plain (OpenSpec.ofChange storeReachesSpec)) storeReachesCard

/-- THE TIED CARD OF 'admissionlaw05.StoreSweeps'. -/
def storeSweepsCard : Claim7 := { stood := { row := storeSweepsRow, standIns := [], harness := (true, "2c19d1e91194a01714f99ecbdb7b0654ffd82d2054c4ba88ef21990729eb5c49"), looks := false }, kinds := [], alts := [], laidByText := true, laidKinds := [.data, .data, .pinned], laidTests := true, laidLooks := .later }
def StoreSweepsCardSaid : Prop := Claim7.holds Tryz.pinned (.plain (OpenSpec.ofChange storeSweepsSpec)) storeSweepsCard

/-- THE TIED CARD OF 'admissionlaw05.StoreSweepsAgain'. -/
def storeSweepsAgainCard : Claim7 := { stood := { row := storeSweepsAgainRow, standIns := [], harness := (true, "2c19d1e91194a01714f99ecbdb7b0654ffd82d2054c4ba88ef21990729eb5c49"), looks := false }, kinds := [], alts := [], laidByText := true, laidKinds := [.data, .data, .pinned], laidTests := true, laidLooks := .later }
def StoreSweepsAgainCardSaid : Prop := Claim7.holds Tryz.pinned (.plain (OpenSpec.ofChange storeSweepsAgainSpec)) storeSweepsAgainCard

/-- THE SECOND FORM's CARD OF 'admissionlaw05.StoreCloses'. -/
def storeClosesUptoCard : Claim7 := { stood := { row := storeClosesUptoRow, standIns := [], harness := (true, "2c19d1e91194a01714f99ecbdb7b0654ffd82d2054c4ba88ef21990729eb5c49"), looks := false }, kinds := [], alts := [], laidByText := true, laidKinds := [.data, .data, .pinned], laidTests := true, laidLooks := .later }
def StoreClosesUptoCardSaid : Prop := Claim7.holds Tryz.pinned (.plain (OpenSpec.upto storeClosesSpec)) storeClosesUptoCard

/-- THE SECOND FORM's CARD OF 'admissionlaw05.StoreReaches'. -/
def storeReachesUptoCard : Claim7 := { stood := { row := storeReachesUptoRow, standIns := [], harness := (true, "2c19d1e91194a01714f99ecbdb7b0654ffd82d2054c4ba88ef21990729eb5c49"), looks := false }, kinds := [], alts := [], laidByText := true, laidKinds := [.data, .data, .pinned], laidTests := true, laidLooks := .later }
def StoreReachesUptoCardSaid : Prop := Claim7.holds Tryz.pinned (.plain (OpenSpec.upto storeReachesSpec)) storeReachesUptoCard

/-- THE SECOND FORM's CARD OF 'admissionlaw05.StoreSweeps'. -/
def storeSweepsUptoCard : Claim7 := { stood := { row := storeSweepsUptoRow, standIns := [], harness := (true, "2c19d1e91194a01714f99ecbdb7b0654ffd82d2054c4ba88ef21990729eb5c49"), looks := false }, kinds := [], alts := [], laidByText := true, laidKinds := [.data, .data, .pinned], laidTests := true, laidLooks := .later }
def StoreSweepsUptoCardSaid : Prop := Claim7.holds Tryz.pinned (.plain (OpenSpec.upto storeSweepsSpec)) storeSweepsUptoCard

/-- THE SECOND FORM's CARD OF 'admissionlaw05.StoreSweepsAgain'. -/
def storeSweepsAgainUptoCard : Claim7 := { stood := { row := storeSweepsAgainUptoRow, standIns := [], harness := (true, "2c19d1e91194a01714f99ecbdb7b0654ffd82d2054c4ba88ef21990729eb5c49"), looks := false }, kinds := [], alts := [], laidByText := true, laidKinds := [.data, .data, .pinned], laidTests := true, laidLooks := .later }
def StoreSweepsAgainUptoCardSaid : Prop := Claim7.holds Tryz.pinned (.plain (OpenSpec.upto storeSweepsAgainSpec)) storeSweepsAgainUptoCard
end Rows
end Go.Proofs.YtfehgkpmjnmpeaaGreatDoor
