/-
  DERIVED. GIVEN WITH THE SEED: THE CARDS: each row of YtgljncfijcamhaaGreatDoorRows.lean that lists a variable, with what it lists TIED to the program's text (the seventh form; the later family's looks); each row that meets fmt, with fmt's text TOLD by the authors' own Lean function (tested against real Go, not proved from fmt's source: count such statements apart). THE CARD IS WHAT COUNTS. Prove the row's statement (the work); the ties are given (YtgljncfijcamhaaGreatDoorTie.lean); close each card by the builder's one call (the guide's Derived/Test/ToyasCard.lean, 'card_holds'). Laid BY PROGRAM, IN A SANDBOX (cutbox-door.mjs). By AI agents, Wed Nov 11 2026. No macro, syntax, notation, axiom, sorry.
-/
import Derived.Test.YtgljncfijcamhaaGreatDoorRows
import GoSem.ClaimSeven
namespace Go.Proofs.YtgljncfijcamhaaGreatDoor
namespace Rows

/-- THE TIED CARD OF 'putloglaw06.HoldingDemands'. -/
def holdingDemandsCard : Claim7 := { stood := { row := holdingDemandsRow, standIns := [], harness := (true, "059a44a44488a0c7a09152eb564603cd8d3aedf9a65f42faac78fb233fd7d655"), looks := false }, kinds := [], alts := [], laidByText := true, laidKinds := [.data, .data, .data], laidTests := true, laidLooks := .later }
def HoldingDemandsCardSaid : Prop := Claim7.holds Tryz.pinned (.plain (OpenSpec.ofChange holdingDemandsSpec)) holdingDemandsCard

/-- THE TIED CARD OF 'putloglaw06.HoldingEssential'. -/
def holdingEssentialCard : Claim7 := { stood := { row := holdingEssentialRow, standIns := [], harness := (true, "059a44a44488a0c7a09152eb564603cd8d3aedf9a65f42faac78fb233fd7d655"), looks := false }, kinds := [], alts := [], laidByText := true, laidKinds := [.data, .data, .data], laidTests := true, laidLooks := .later }
def HoldingEssentialCardSaid : Prop := Claim7.holds Tryz.pinned (.plain (OpenSpec.ofChange holdingEssentialSpec)) holdingEssentialCard

/-- THE TIED CARD OF 'putloglaw06.HoldingJacks'. -/
def holdingJacksCard : Claim7 := { stood := { row := holdingJacksRow, standIns := [], harness := (true, "059a44a44488a0c7a09152eb564603cd8d3aedf9a65f42faac78fb233fd7d655"), looks := false }, kinds := [], alts := [], laidByText := true, laidKinds := [.data, .data, .data], laidTests := true, laidLooks := .later }
def HoldingJacksCardSaid : Prop := Claim7.holds Tryz.pinned (.plain (OpenSpec.ofChange holdingJacksSpec)) holdingJacksCard

/-- THE TIED CARD OF 'putloglaw06.HoldingSoles'. -/
def holdingSolesCard : Claim7 := { stood := { row := holdingSolesRow, standIns := [], harness := (true, "059a44a44488a0c7a09152eb564603cd8d3aedf9a65f42faac78fb233fd7d655"), looks := false }, kinds := [], alts := [], laidByText := true, laidKinds := [.data, .data, .data], laidTests := true, laidLooks := .later }
def HoldingSolesCardSaid : Prop := Claim7.holds Tryz.pinned (.plain (OpenSpec.ofChange holdingSolesSpec)) holdingSolesCard

/-- THE TIED CARD OF 'putloglaw06.HoldingGaps'. -/
def holdingGapsCard : Claim7 := { stood := { row := holdingGapsRow, standIns := [], harness := (true, "059a44a44488a0c7a09152eb564603cd8d3aedf9a65f42faac78fb233fd7d655"), looks := false }, kinds := [], alts := [], laidByText := true, laidKinds := [.data, .data, .data], laidTests := true, laidLooks := .later }
def HoldingGapsCardSaid : Prop := Claim7.holds Tryz.pinned (.plain (OpenSpec.ofChange holdingGapsSpec)) holdingGapsCard

/-- THE SECOND FORM's CARD OF 'putloglaw06.HoldingDemands'. -/
def holdingDemandsUptoCard : Claim7 := { stood := { row := holdingDemandsUptoRow, standIns := [], harness := (true, "059a44a44488a0c7a09152eb564603cd8d3aedf9a65f42faac78fb233fd7d655"), looks := false }, kinds := [], alts := [], laidByText := true, laidKinds := [.data, .data, .data], laidTests := true, laidLooks := .later }
def HoldingDemandsUptoCardSaid : Prop := Claim7.holds Tryz.pinned (.plain (OpenSpec.upto holdingDemandsSpec)) holdingDemandsUptoCard

/-- THE SECOND FORM's CARD OF 'putloglaw06.HoldingEssential'. -/
def holdingEssentialUptoCard : Claim7 := { stood := { row := holdingEssentialUptoRow, standIns := [], harness := (true, "059a44a44488a0c7a09152eb564603cd8d3aedf9a65f42faac78fb233fd7d655"), looks := false }, kinds := [], alts := [], laidByText := true, laidKinds := [.data, .data, .data], laidTests := true, laidLooks := .later }
def HoldingEssentialUptoCardSaid : Prop := Claim7.holds Tryz.pinned (.plain (OpenSpec.upto holdingEssentialSpec)) holdingEssentialUptoCard

/-- THE SECOND FORM's CARD OF 'putloglaw06.HoldingJacks'. -/
def holdingJacksUptoCard : Claim7 := { stood := { row := holdingJacksUptoRow, standIns := [], harness := (true, "059a44a44488a0c7a09152eb564603cd8d3aedf9a65f42faac78fb233fd7d655"), looks := false }, kinds := [], alts := [], laidByText := true, laidKinds := [.data, .data, .data], laidTests := true, laidLooks := .later }
def HoldingJacksUptoCardSaid : Prop := Claim7.holds Tryz.pinned (.plain (OpenSpec.upto holdingJacksSpec)) holdingJacksUptoCard

/-- THE SECOND FORM's CARD OF 'putloglaw06.HoldingSoles'. -/
def holdingSolesUptoCard : Claim7 := { stood := { row := holdingSolesUptoRow, standIns := [], harness := (true, "059a44a44488a0c7a09152eb564603cd8d3aedf9a65f42faac78fb233fd7d655"), looks := false }, kinds := [], alts := [], laidByText := true, laidKinds := [.data, .data, .data], laidTests := true, laidLooks := .later }
def HoldingSolesUptoCardSaid : Prop := Claim7.holds Tryz.pinned (.plain (OpenSpec.upto holdingSolesSpec)) holdingSolesUptoCard

/-- THE SECOND FORM's CARD OF 'putloglaw06.HoldingGaps'. -/
def holdingGapsUptoCard : Claim7 := { stood := { row := holdingGapsUptoRow, standIns := [], harness := (true, "059a44a44488a0c7a09152eb564603cd8d3aedf9a65f42faac78fb233fd7d655"), looks := false }, kinds := [], alts := [], laidByText := true, laidKinds := [.data, .data, .data], laidTests := true, laidLooks := .later }
def HoldingGapsUptoCardSaid : Prop := Claim7.holds Tryz.pinned (.plain (OpenSpec.upto holdingGapsSpec)) holdingGapsUptoCard
end Rows
end Go.Proofs.YtgljncfijcamhaaGreatDoor
