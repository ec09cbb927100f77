/-
  DERIVED. GIVEN WITH THE SEED: THE CARDS: each row of YtkhmocbfkpbpfaaGreatDoorRows.lean that lists a variable, with what it lists TIED to the program's text (the seventh form; the later family's looks); each row that meets fmt, with fmt's text TOLD by the authors' own Lean function (tested against real Go, not proved from fmt's source: count such statements apart). THE CARD IS WHAT COUNTS. Prove the row's statement (the work); the ties are given (YtkhmocbfkpbpfaaGreatDoorTie.lean); close each card by the builder's one call (the guide's Derived/Test/ToyasCard.lean, 'card_holds'). Laid BY PROGRAM, IN A SANDBOX (cutbox-door.mjs). By AI agents, Wed Nov 11 2026. No macro, syntax, notation, axiom, sorry.
-/
import Derived.Test.YtkhmocbfkpbpfaaGreatDoorRows
import GoSem.ClaimSeven
namespace Go.Proofs.YtkhmocbfkpbpfaaGreatDoor
namespace Rows

/-- THE TIED CARD OF 'jigsawlaw12.ExtFilters'. -/
def extFiltersCard : Claim7 := { stood := { row := extFiltersRow, standIns := [], harness := (true, "b57abb680df54703d4d84127f8ad82709f9fb725f12f7fab0dddca3fba911323"), looks := false }, kinds := [], alts := [], laidByText := true, laidKinds := [.data, .data], laidTests := true, laidLooks := .later }
def ExtFiltersCardSaid : Prop := Claim7.holds Tryz.pinned (.plain (OpenSpec.ofChange extFiltersSpec)) extFiltersCard

/-- THE TIED CARD OF 'jigsawlaw12.ExtRefuses'. -/
def extRefusesCard : Claim7 := { stood := { row := extRefusesRow, standIns := [], harness := (true, "b57abb680df54703d4d84127f8ad82709f9fb725f12f7fab0dddca3fba911323"), looks := false }, kinds := [], alts := [], laidByText := true, laidKinds := [.data, .data], laidTests := true, laidLooks := .later }
def ExtRefusesCardSaid : Prop := Claim7.holds Tryz.pinned (.plain (OpenSpec.ofChange extRefusesSpec)) extRefusesCard

/-- THE TIED CARD OF 'jigsawlaw12.ExtKeeps'. -/
def extKeepsCard : Claim7 := { stood := { row := extKeepsRow, standIns := [], harness := (true, "b57abb680df54703d4d84127f8ad82709f9fb725f12f7fab0dddca3fba911323"), looks := false }, kinds := [], alts := [], laidByText := true, laidKinds := [.data, .data], laidTests := true, laidLooks := .later }
def ExtKeepsCardSaid : Prop := Claim7.holds Tryz.pinned (.plain (OpenSpec.ofChange extKeepsSpec)) extKeepsCard

/-- THE TIED CARD OF 'jigsawlaw12.ExtFixed'. -/
def extFixedCard : Claim7 := { stood := { row := extFixedRow, standIns := [], harness := (true, "b57abb680df54703d4d84127f8ad82709f9fb725f12f7fab0dddca3fba911323"), looks := false }, kinds := [], alts := [], laidByText := true, laidKinds := [.data, .data], laidTests := true, laidLooks := .later }
def ExtFixedCardSaid : Prop := Claim7.holds Tryz.pinned (.plain (OpenSpec.ofChange extFixedSpec)) extFixedCard

/-- THE TIED CARD OF 'jigsawlaw12.ExtWide'. -/
def extWideCard : Claim7 := { stood := { row := extWideRow, standIns := [], harness := (true, "b57abb680df54703d4d84127f8ad82709f9fb725f12f7fab0dddca3fba911323"), looks := false }, kinds := [], alts := [], laidByText := true, laidKinds := [.data, .data], laidTests := true, laidLooks := .later }
def ExtWideCardSaid : Prop := Claim7.holds Tryz.pinned (.plain (OpenSpec.ofChange extWideSpec)) extWideCard

/-- THE TIED CARD OF 'jigsawlaw11.MulWide'. -/
def mulWideCard : Claim7 := { stood := { row := mulWideRow, standIns := [], harness := (true, "b57abb680df54703d4d84127f8ad82709f9fb725f12f7fab0dddca3fba911323"), looks := false }, kinds := [], alts := [], laidByText := true, laidKinds := [.data, .data], laidTests := true, laidLooks := .later }
def MulWideCardSaid : Prop := Claim7.holds Tryz.pinned (.plain (OpenSpec.ofChange mulWideSpec)) mulWideCard

/-- THE TIED CARD OF 'jigsawlaw10.LinFilters'. -/
def linFiltersCard : Claim7 := { stood := { row := linFiltersRow, standIns := [], harness := (true, "b57abb680df54703d4d84127f8ad82709f9fb725f12f7fab0dddca3fba911323"), looks := false }, kinds := [], alts := [], laidByText := true, laidKinds := [.data, .data], laidTests := true, laidLooks := .later }
def LinFiltersCardSaid : Prop := Claim7.holds Tryz.pinned (.plain (OpenSpec.ofChange linFiltersSpec)) linFiltersCard

/-- THE TIED CARD OF 'jigsawlaw10.LinWide'. -/
def linWideCard : Claim7 := { stood := { row := linWideRow, standIns := [], harness := (true, "b57abb680df54703d4d84127f8ad82709f9fb725f12f7fab0dddca3fba911323"), looks := false }, kinds := [], alts := [], laidByText := true, laidKinds := [.data, .data], laidTests := true, laidLooks := .later }
def LinWideCardSaid : Prop := Claim7.holds Tryz.pinned (.plain (OpenSpec.ofChange linWideSpec)) linWideCard

/-- THE TIED CARD OF 'jigsawlaw10.LinRefuses'. -/
def linRefusesCard : Claim7 := { stood := { row := linRefusesRow, standIns := [], harness := (true, "b57abb680df54703d4d84127f8ad82709f9fb725f12f7fab0dddca3fba911323"), looks := false }, kinds := [], alts := [], laidByText := true, laidKinds := [.data, .data], laidTests := true, laidLooks := .later }
def LinRefusesCardSaid : Prop := Claim7.holds Tryz.pinned (.plain (OpenSpec.ofChange linRefusesSpec)) linRefusesCard

/-- THE TIED CARD OF 'jigsawlaw10.LinKeeps'. -/
def linKeepsCard : Claim7 := { stood := { row := linKeepsRow, standIns := [], harness := (true, "b57abb680df54703d4d84127f8ad82709f9fb725f12f7fab0dddca3fba911323"), looks := false }, kinds := [], alts := [], laidByText := true, laidKinds := [.data, .data], laidTests := true, laidLooks := .later }
def LinKeepsCardSaid : Prop := Claim7.holds Tryz.pinned (.plain (OpenSpec.ofChange linKeepsSpec)) linKeepsCard

/-- THE TIED CARD OF 'jigsawlaw10.LinFixed'. -/
def linFixedCard : Claim7 := { stood := { row := linFixedRow, standIns := [], harness := (true, "b57abb680df54703d4d84127f8ad82709f9fb725f12f7fab0dddca3fba911323"), looks := false }, kinds := [], alts := [], laidByText := true, laidKinds := [.data, .data], laidTests := true, laidLooks := .later }
def LinFixedCardSaid : Prop := Claim7.holds Tryz.pinned (.plain (OpenSpec.ofChange linFixedSpec)) linFixedCard

/-- THE TIED CARD OF 'jigsawlaw09.GroundSolves'. -/
def groundSolvesCard : Claim7 := { stood := { row := groundSolvesRow, standIns := [], harness := (true, "b57abb680df54703d4d84127f8ad82709f9fb725f12f7fab0dddca3fba911323"), looks := false }, kinds := [], alts := [], laidByText := true, laidKinds := [.data], laidTests := true, laidLooks := .later }
def GroundSolvesCardSaid : Prop := Claim7.holds Tryz.pinned (.plain (OpenSpec.ofChange groundSolvesSpec)) groundSolvesCard

/-- THE SECOND FORM's CARD OF 'jigsawlaw12.ExtFilters'. -/
def extFiltersUptoCard : Claim7 := { stood := { row := extFiltersUptoRow, standIns := [], harness := (true, "b57abb680df54703d4d84127f8ad82709f9fb725f12f7fab0dddca3fba911323"), looks := false }, kinds := [], alts := [], laidByText := true, laidKinds := [.data, .data], laidTests := true, laidLooks := .later }
def ExtFiltersUptoCardSaid : Prop := Claim7.holds Tryz.pinned (.plain (OpenSpec.upto extFiltersSpec)) extFiltersUptoCard

/-- THE SECOND FORM's CARD OF 'jigsawlaw12.ExtRefuses'. -/
def extRefusesUptoCard : Claim7 := { stood := { row := extRefusesUptoRow, standIns := [], harness := (true, "b57abb680df54703d4d84127f8ad82709f9fb725f12f7fab0dddca3fba911323"), looks := false }, kinds := [], alts := [], laidByText := true, laidKinds := [.data, .data], laidTests := true, laidLooks := .later }
def ExtRefusesUptoCardSaid : Prop := Claim7.holds Tryz.pinned (.plain (OpenSpec.upto extRefusesSpec)) extRefusesUptoCard

/-- THE SECOND FORM's CARD OF 'jigsawlaw12.ExtKeeps'. -/
def extKeepsUptoCard : Claim7 := { stood := { row := extKeepsUptoRow, standIns := [], harness := (true, "b57abb680df54703d4d84127f8ad82709f9fb725f12f7fab0dddca3fba911323"), looks := false }, kinds := [], alts := [], laidByText := true, laidKinds := [.data, .data], laidTests := true, laidLooks := .later }
def ExtKeepsUptoCardSaid : Prop := Claim7.holds Tryz.pinned (.plain (OpenSpec.upto extKeepsSpec)) extKeepsUptoCard

/-- THE SECOND FORM's CARD OF 'jigsawlaw12.ExtFixed'. -/
def extFixedUptoCard : Claim7 := { stood := { row := extFixedUptoRow, standIns := [], harness := (true, "b57abb680df54703d4d84127f8ad82709f9fb725f12f7fab0dddca3fba911323"), looks := false }, kinds := [], alts := [], laidByText := true, laidKinds := [.data, .data], laidTests := true, laidLooks := .later }
def ExtFixedUptoCardSaid : Prop := Claim7.holds Tryz.pinned (.plain (OpenSpec.upto extFixedSpec)) extFixedUptoCard

/-- THE SECOND FORM's CARD OF 'jigsawlaw12.ExtWide'. -/
def extWideUptoCard : Claim7 := { stood := { row := extWideUptoRow, standIns := [], harness := (true, "b57abb680df54703d4d84127f8ad82709f9fb725f12f7fab0dddca3fba911323"), looks := false }, kinds := [], alts := [], laidByText := true, laidKinds := [.data, .data], laidTests := true, laidLooks := .later }
def ExtWideUptoCardSaid : Prop := Claim7.holds Tryz.pinned (.plain (OpenSpec.upto extWideSpec)) extWideUptoCard

/-- THE SECOND FORM's CARD OF 'jigsawlaw11.MulWide'. -/
def mulWideUptoCard : Claim7 := { stood := { row := mulWideUptoRow, standIns := [], harness := (true, "b57abb680df54703d4d84127f8ad82709f9fb725f12f7fab0dddca3fba911323"), looks := false }, kinds := [], alts := [], laidByText := true, laidKinds := [.data, .data], laidTests := true, laidLooks := .later }
def MulWideUptoCardSaid : Prop := Claim7.holds Tryz.pinned (.plain (OpenSpec.upto mulWideSpec)) mulWideUptoCard

/-- THE SECOND FORM's CARD OF 'jigsawlaw10.LinFilters'. -/
def linFiltersUptoCard : Claim7 := { stood := { row := linFiltersUptoRow, standIns := [], harness := (true, "b57abb680df54703d4d84127f8ad82709f9fb725f12f7fab0dddca3fba911323"), looks := false }, kinds := [], alts := [], laidByText := true, laidKinds := [.data, .data], laidTests := true, laidLooks := .later }
def LinFiltersUptoCardSaid : Prop := Claim7.holds Tryz.pinned (.plain (OpenSpec.upto linFiltersSpec)) linFiltersUptoCard

/-- THE SECOND FORM's CARD OF 'jigsawlaw10.LinWide'. -/
def linWideUptoCard : Claim7 := { stood := { row := linWideUptoRow, standIns := [], harness := (true, "b57abb680df54703d4d84127f8ad82709f9fb725f12f7fab0dddca3fba911323"), looks := false }, kinds := [], alts := [], laidByText := true, laidKinds := [.data, .data], laidTests := true, laidLooks := .later }
def LinWideUptoCardSaid : Prop := Claim7.holds Tryz.pinned (.plain (OpenSpec.upto linWideSpec)) linWideUptoCard

/-- THE SECOND FORM's CARD OF 'jigsawlaw10.LinRefuses'. -/
def linRefusesUptoCard : Claim7 := { stood := { row := linRefusesUptoRow, standIns := [], harness := (true, "b57abb680df54703d4d84127f8ad82709f9fb725f12f7fab0dddca3fba911323"), looks := false }, kinds := [], alts := [], laidByText := true, laidKinds := [.data, .data], laidTests := true, laidLooks := .later }
def LinRefusesUptoCardSaid : Prop := Claim7.holds Tryz.pinned (.plain (OpenSpec.upto linRefusesSpec)) linRefusesUptoCard

/-- THE SECOND FORM's CARD OF 'jigsawlaw10.LinKeeps'. -/
def linKeepsUptoCard : Claim7 := { stood := { row := linKeepsUptoRow, standIns := [], harness := (true, "b57abb680df54703d4d84127f8ad82709f9fb725f12f7fab0dddca3fba911323"), looks := false }, kinds := [], alts := [], laidByText := true, laidKinds := [.data, .data], laidTests := true, laidLooks := .later }
def LinKeepsUptoCardSaid : Prop := Claim7.holds Tryz.pinned (.plain (OpenSpec.upto linKeepsSpec)) linKeepsUptoCard

/-- THE SECOND FORM's CARD OF 'jigsawlaw10.LinFixed'. -/
def linFixedUptoCard : Claim7 := { stood := { row := linFixedUptoRow, standIns := [], harness := (true, "b57abb680df54703d4d84127f8ad82709f9fb725f12f7fab0dddca3fba911323"), looks := false }, kinds := [], alts := [], laidByText := true, laidKinds := [.data, .data], laidTests := true, laidLooks := .later }
def LinFixedUptoCardSaid : Prop := Claim7.holds Tryz.pinned (.plain (OpenSpec.upto linFixedSpec)) linFixedUptoCard

/-- THE SECOND FORM's CARD OF 'jigsawlaw09.GroundSolves'. -/
def groundSolvesUptoCard : Claim7 := { stood := { row := groundSolvesUptoRow, standIns := [], harness := (true, "b57abb680df54703d4d84127f8ad82709f9fb725f12f7fab0dddca3fba911323"), looks := false }, kinds := [], alts := [], laidByText := true, laidKinds := [.data], laidTests := true, laidLooks := .later }
def GroundSolvesUptoCardSaid : Prop := Claim7.holds Tryz.pinned (.plain (OpenSpec.upto groundSolvesSpec)) groundSolvesUptoCard
end Rows
end Go.Proofs.YtkhmocbfkpbpfaaGreatDoor
