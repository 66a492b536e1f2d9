/-
  DERIVED. GIVEN WITH THE SEED: THE CARDS: each row of YtkeieacmboidoaaDoorRows.lean that lists a variable, with what it lists TIED to the program's text (the seventh form; the later family's looks); each row that meets fmt, with fmt's text TOLD by the authors' own Lean function (tested against real Go, not proved from fmt's source: count such statements apart). THE CARD IS WHAT COUNTS. Prove the row's statement (the work); the ties are given (YtkeieacmboidoaaDoorTie.lean); close each card by the builder's one call (the guide's Derived/Test/ToyasCard.lean, 'card_holds'). Laid BY PROGRAM, IN A SANDBOX (cutbox-door.mjs). By AI agents, Wed Nov 11 2026. No macro, syntax, notation, axiom, sorry.
-/
import Derived.Test.YtkeieacmboidoaaDoorRows
import GoSem.ClaimSeven
namespace Go.Proofs.YtkeieacmboidoaaDoor
namespace Rows

/-- THE TIED CARD OF 'admissionlaw08.OnetimeSteps'. -/
def onetimeStepsCard : Claim7 := { stood := { row := onetimeStepsRow, standIns := [], harness := (true, "2487e47ef07ce947c78173d4f8c213b02d73f2428da7543e53790c824114b9ba"), looks := false }, kinds := [], alts := [], laidByText := true, laidKinds := [.data], laidTests := true, laidLooks := .later }
def OnetimeStepsCardSaid : Prop := Claim7.holds Tryd.pinned (.plain (OpenSpec.ofChange onetimeStepsSpec)) onetimeStepsCard

/-- THE TIED CARD OF 'admissionlaw08.OnetimeClimbs'. -/
def onetimeClimbsCard : Claim7 := { stood := { row := onetimeClimbsRow, standIns := [], harness := (true, "2487e47ef07ce947c78173d4f8c213b02d73f2428da7543e53790c824114b9ba"), looks := false }, kinds := [], alts := [], laidByText := true, laidKinds := [.data], laidTests := true, laidLooks := .later }
def OnetimeClimbsCardSaid : Prop := Claim7.holds Tryd.pinned (.plain (OpenSpec.ofChange onetimeClimbsSpec)) onetimeClimbsCard

/-- THE TIED CARD OF 'admissionlaw08.OnetimeSigns'. -/
def onetimeSignsCard : Claim7 := { stood := { row := onetimeSignsRow, standIns := [], harness := (true, "2487e47ef07ce947c78173d4f8c213b02d73f2428da7543e53790c824114b9ba"), looks := false }, kinds := [], alts := [], laidByText := true, laidKinds := [.data], laidTests := true, laidLooks := .later }
def OnetimeSignsCardSaid : Prop := Claim7.holds Tryd.pinned (.plain (OpenSpec.ofChange onetimeSignsSpec)) onetimeSignsCard

/-- THE TIED CARD OF 'admissionlaw08.OnetimeRecovers'. -/
def onetimeRecoversCard : Claim7 := { stood := { row := onetimeRecoversRow, standIns := [], harness := (true, "2487e47ef07ce947c78173d4f8c213b02d73f2428da7543e53790c824114b9ba"), looks := false }, kinds := [], alts := [], laidByText := true, laidKinds := [.data], laidTests := true, laidLooks := .later }
def OnetimeRecoversCardSaid : Prop := Claim7.holds Tryd.pinned (.plain (OpenSpec.ofChange onetimeRecoversSpec)) onetimeRecoversCard

/-- THE SECOND FORM's CARD OF 'admissionlaw08.OnetimeSteps'. -/
def onetimeStepsUptoCard : Claim7 := { stood := { row := onetimeStepsUptoRow, standIns := [], harness := (true, "2487e47ef07ce947c78173d4f8c213b02d73f2428da7543e53790c824114b9ba"), looks := false }, kinds := [], alts := [], laidByText := true, laidKinds := [.data], laidTests := true, laidLooks := .later }
def OnetimeStepsUptoCardSaid : Prop := Claim7.holds Tryd.pinned (.plain (OpenSpec.upto onetimeStepsSpec)) onetimeStepsUptoCard

/-- THE SECOND FORM's CARD OF 'admissionlaw08.OnetimeClimbs'. -/
def onetimeClimbsUptoCard : Claim7 := { stood := { row := onetimeClimbsUptoRow, standIns := [], harness := (true, "2487e47ef07ce947c78173d4f8c213b02d73f2428da7543e53790c824114b9ba"), looks := false }, kinds := [], alts := [], laidByText := true, laidKinds := [.data], laidTests := true, laidLooks := .later }
def OnetimeClimbsUptoCardSaid : Prop := Claim7.holds Tryd.pinned (.plain (OpenSpec.upto onetimeClimbsSpec)) onetimeClimbsUptoCard

/-- THE SECOND FORM's CARD OF 'admissionlaw08.OnetimeSigns'. -/
def onetimeSignsUptoCard : Claim7 := { stood := { row := onetimeSignsUptoRow, standIns := [], harness := (true, "2487e47ef07ce947c78173d4f8c213b02d73f2428da7543e53790c824114b9ba"), looks := false }, kinds := [], alts := [], laidByText := true, laidKinds := [.data], laidTests := true, laidLooks := .later }
def OnetimeSignsUptoCardSaid : Prop := Claim7.holds Tryd.pinned (.plain (OpenSpec.upto onetimeSignsSpec)) onetimeSignsUptoCard

/-- THE SECOND FORM's CARD OF 'admissionlaw08.OnetimeRecovers'. -/
def onetimeRecoversUptoCard : Claim7 := { stood := { row := onetimeRecoversUptoRow, standIns := [], harness := (true, "2487e47ef07ce947c78173d4f8c213b02d73f2428da7543e53790c824114b9ba"), looks := false }, kinds := [], alts := [], laidByText := true, laidKinds := [.data], laidTests := true, laidLooks := .later }
def OnetimeRecoversUptoCardSaid : Prop := Claim7.holds Tryd.pinned (.plain (OpenSpec.upto onetimeRecoversSpec)) onetimeRecoversUptoCard
end Rows
end Go.Proofs.YtkeieacmboidoaaDoor
