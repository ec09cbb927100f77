/-
  DERIVED. GIVEN WITH THE SEED: THE CARDS: each row of YtcmdgjkoalophaaGreatDoorRows.lean that lists a variable, with what it lists TIED to the program's text (the seventh form; the later family's looks); each row that meets fmt, with fmt's text TOLD by the authors' own Lean function (tested against real Go, not proved from fmt's source: count such statements apart). THE CARD IS WHAT COUNTS. Prove the row's statement (the work); the ties are given (YtcmdgjkoalophaaGreatDoorTie.lean); close each card by the builder's one call (the guide's Derived/Test/ToyasCard.lean, 'card_holds'). Laid BY PROGRAM, IN A SANDBOX (cutbox-door.mjs). By AI agents, Wed Nov 11 2026. No macro, syntax, notation, axiom, sorry.
-/
import Derived.Test.YtcmdgjkoalophaaGreatDoorRows
import GoSem.ClaimSeven
namespace Go.Proofs.YtcmdgjkoalophaaGreatDoor
namespace Rows

/-- THE TIED CARD OF 'jigsawlaw09.GroundSolves'. -/
def groundSolvesCard : Claim7 := { stood := { row := groundSolvesRow, standIns := [], harness := (true, "1fd1456aa44974ebbe5c31d6f08e488c129140dd3ac11b823bec5089a8e6ff66"), looks := false }, kinds := [], alts := [], laidByText := true, laidKinds := [.data], laidTests := true, laidLooks := .later }
def GroundSolvesCardSaid : Prop := Claim7.holds Tryz.pinned (.plain (OpenSpec.ofChange groundSolvesSpec)) groundSolvesCard

/-- THE TIED CARD OF 'jigsawlaw09.GroundTurns'. -/
def groundTurnsCard : Claim7 := { stood := { row := groundTurnsRow, standIns := [], harness := (true, "1fd1456aa44974ebbe5c31d6f08e488c129140dd3ac11b823bec5089a8e6ff66"), looks := false }, kinds := [], alts := [], laidByText := true, laidKinds := [.data], laidTests := true, laidLooks := .later }
def GroundTurnsCardSaid : Prop := Claim7.holds Tryz.pinned (.plain (OpenSpec.ofChange groundTurnsSpec)) groundTurnsCard

/-- THE TIED CARD OF 'jigsawlaw10.LinFilters'. -/
def linFiltersCard : Claim7 := { stood := { row := linFiltersRow, standIns := [], harness := (true, "1fd1456aa44974ebbe5c31d6f08e488c129140dd3ac11b823bec5089a8e6ff66"), looks := false }, kinds := [], alts := [], laidByText := true, laidKinds := [.data, .data], laidTests := true, laidLooks := .later }
def LinFiltersCardSaid : Prop := Claim7.holds Tryz.pinned (.plain (OpenSpec.ofChange linFiltersSpec)) linFiltersCard

/-- THE TIED CARD OF 'jigsawlaw10.LinWide'. -/
def linWideCard : Claim7 := { stood := { row := linWideRow, standIns := [], harness := (true, "1fd1456aa44974ebbe5c31d6f08e488c129140dd3ac11b823bec5089a8e6ff66"), looks := false }, kinds := [], alts := [], laidByText := true, laidKinds := [.data, .data], laidTests := true, laidLooks := .later }
def LinWideCardSaid : Prop := Claim7.holds Tryz.pinned (.plain (OpenSpec.ofChange linWideSpec)) linWideCard

/-- THE TIED CARD OF 'jigsawlaw10.LinRefuses'. -/
def linRefusesCard : Claim7 := { stood := { row := linRefusesRow, standIns := [], harness := (true, "1fd1456aa44974ebbe5c31d6f08e488c129140dd3ac11b823bec5089a8e6ff66"), looks := false }, kinds := [], alts := [], laidByText := true, laidKinds := [.data, .data], laidTests := true, laidLooks := .later }
def LinRefusesCardSaid : Prop := Claim7.holds Tryz.pinned (.plain (OpenSpec.ofChange linRefusesSpec)) linRefusesCard

/-- THE TIED CARD OF 'jigsawlaw10.LinKeeps'. -/
def linKeepsCard : Claim7 := { stood := { row := linKeepsRow, standIns := [], harness := (true, "1fd1456aa44974ebbe5c31d6f08e488c129140dd3ac11b823bec5089a8e6ff66"), looks := false }, kinds := [], alts := [], laidByText := true, laidKinds := [.data, .data], laidTests := true, laidLooks := .later }
def LinKeepsCardSaid : Prop := Claim7.holds Tryz.pinned (.plain (OpenSpec.ofChange linKeepsSpec)) linKeepsCard

/-- THE TIED CARD OF 'jigsawlaw10.LinFixed'. -/
def linFixedCard : Claim7 := { stood := { row := linFixedRow, standIns := [], harness := (true, "1fd1456aa44974ebbe5c31d6f08e488c129140dd3ac11b823bec5089a8e6ff66"), looks := false }, kinds := [], alts := [], laidByText := true, laidKinds := [.data, .data], laidTests := true, laidLooks := .later }
def LinFixedCardSaid : Prop := Claim7.holds Tryz.pinned (.plain (OpenSpec.ofChange linFixedSpec)) linFixedCard

/-- THE TIED CARD OF 'jigsawlaw11.MulFilters'. -/
def mulFiltersCard : Claim7 := { stood := { row := mulFiltersRow, standIns := [], harness := (true, "1fd1456aa44974ebbe5c31d6f08e488c129140dd3ac11b823bec5089a8e6ff66"), looks := false }, kinds := [], alts := [], laidByText := true, laidKinds := [.data, .data], laidTests := true, laidLooks := .later }
def MulFiltersCardSaid : Prop := Claim7.holds Tryz.pinned (.plain (OpenSpec.ofChange mulFiltersSpec)) mulFiltersCard

/-- THE TIED CARD OF 'jigsawlaw11.MulRefuses'. -/
def mulRefusesCard : Claim7 := { stood := { row := mulRefusesRow, standIns := [], harness := (true, "1fd1456aa44974ebbe5c31d6f08e488c129140dd3ac11b823bec5089a8e6ff66"), looks := false }, kinds := [], alts := [], laidByText := true, laidKinds := [.data, .data], laidTests := true, laidLooks := .later }
def MulRefusesCardSaid : Prop := Claim7.holds Tryz.pinned (.plain (OpenSpec.ofChange mulRefusesSpec)) mulRefusesCard

/-- THE TIED CARD OF 'jigsawlaw11.MulKeeps'. -/
def mulKeepsCard : Claim7 := { stood := { row := mulKeepsRow, standIns := [], harness := (true, "1fd1456aa44974ebbe5c31d6f08e488c129140dd3ac11b823bec5089a8e6ff66"), looks := false }, kinds := [], alts := [], laidByText := true, laidKinds := [.data, .data], laidTests := true, laidLooks := .later }
def MulKeepsCardSaid : Prop := Claim7.holds Tryz.pinned (.plain (OpenSpec.ofChange mulKeepsSpec)) mulKeepsCard

/-- THE TIED CARD OF 'jigsawlaw11.MulFixed'. -/
def mulFixedCard : Claim7 := { stood := { row := mulFixedRow, standIns := [], harness := (true, "1fd1456aa44974ebbe5c31d6f08e488c129140dd3ac11b823bec5089a8e6ff66"), looks := false }, kinds := [], alts := [], laidByText := true, laidKinds := [.data, .data], laidTests := true, laidLooks := .later }
def MulFixedCardSaid : Prop := Claim7.holds Tryz.pinned (.plain (OpenSpec.ofChange mulFixedSpec)) mulFixedCard

/-- THE TIED CARD OF 'jigsawlaw11.MulWide'. -/
def mulWideCard : Claim7 := { stood := { row := mulWideRow, standIns := [], harness := (true, "1fd1456aa44974ebbe5c31d6f08e488c129140dd3ac11b823bec5089a8e6ff66"), looks := false }, kinds := [], alts := [], laidByText := true, laidKinds := [.data, .data], laidTests := true, laidLooks := .later }
def MulWideCardSaid : Prop := Claim7.holds Tryz.pinned (.plain (OpenSpec.ofChange mulWideSpec)) mulWideCard

/-- THE SECOND FORM's CARD OF 'jigsawlaw09.GroundSolves'. -/
def groundSolvesUptoCard : Claim7 := { stood := { row := groundSolvesUptoRow, standIns := [], harness := (true, "1fd1456aa44974ebbe5c31d6f08e488c129140dd3ac11b823bec5089a8e6ff66"), looks := false }, kinds := [], alts := [], laidByText := true, laidKinds := [.data], laidTests := true, laidLooks := .later }
def GroundSolvesUptoCardSaid : Prop := Claim7.holds Tryz.pinned (.plain (OpenSpec.upto groundSolvesSpec)) groundSolvesUptoCard

/-- THE SECOND FORM's CARD OF 'jigsawlaw09.GroundTurns'. -/
def groundTurnsUptoCard : Claim7 := { stood := { row := groundTurnsUptoRow, standIns := [], harness := (true, "1fd1456aa44974ebbe5c31d6f08e488c129140dd3ac11b823bec5089a8e6ff66"), looks := false }, kinds := [], alts := [], laidByText := true, laidKinds := [.data], laidTests := true, laidLooks := .later }
def GroundTurnsUptoCardSaid : Prop := Claim7.holds Tryz.pinned (.plain (OpenSpec.upto groundTurnsSpec)) groundTurnsUptoCard

/-- THE SECOND FORM's CARD OF 'jigsawlaw10.LinFilters'. -/
def linFiltersUptoCard : Claim7 := { stood := { row := linFiltersUptoRow, standIns := [], harness := (true, "1fd1456aa44974ebbe5c31d6f08e488c129140dd3ac11b823bec5089a8e6ff66"), looks := false }, kinds := [], alts := [], laidByText := true, laidKinds := [.data, .data], laidTests := true, laidLooks := .later }
def LinFiltersUptoCardSaid : Prop := Claim7.holds Tryz.pinned (.plain (OpenSpec.upto linFiltersSpec)) linFiltersUptoCard

/-- THE SECOND FORM's CARD OF 'jigsawlaw10.LinWide'. -/
def linWideUptoCard : Claim7 := { stood := { row := linWideUptoRow, standIns := [], harness := (true, "1fd1456aa44974ebbe5c31d6f08e488c129140dd3ac11b823bec5089a8e6ff66"), looks := false }, kinds := [], alts := [], laidByText := true, laidKinds := [.data, .data], laidTests := true, laidLooks := .later }
def LinWideUptoCardSaid : Prop := Claim7.holds Tryz.pinned (.plain (OpenSpec.upto linWideSpec)) linWideUptoCard

/-- THE SECOND FORM's CARD OF 'jigsawlaw10.LinRefuses'. -/
def linRefusesUptoCard : Claim7 := { stood := { row := linRefusesUptoRow, standIns := [], harness := (true, "1fd1456aa44974ebbe5c31d6f08e488c129140dd3ac11b823bec5089a8e6ff66"), looks := false }, kinds := [], alts := [], laidByText := true, laidKinds := [.data, .data], laidTests := true, laidLooks := .later }
def LinRefusesUptoCardSaid : Prop := Claim7.holds Tryz.pinned (.plain (OpenSpec.upto linRefusesSpec)) linRefusesUptoCard

/-- THE SECOND FORM's CARD OF 'jigsawlaw10.LinKeeps'. -/
def linKeepsUptoCard : Claim7 := { stood := { row := linKeepsUptoRow, standIns := [], harness := (true, "1fd1456aa44974ebbe5c31d6f08e488c129140dd3ac11b823bec5089a8e6ff66"), looks := false }, kinds := [], alts := [], laidByText := true, laidKinds := [.data, .data], laidTests := true, laidLooks := .later }
def LinKeepsUptoCardSaid : Prop := Claim7.holds Tryz.pinned (.plain (OpenSpec.upto linKeepsSpec)) linKeepsUptoCard

/-- THE SECOND FORM's CARD OF 'jigsawlaw10.LinFixed'. -/
def linFixedUptoCard : Claim7 := { stood := { row := linFixedUptoRow, standIns := [], harness := (true, "1fd1456aa44974ebbe5c31d6f08e488c129140dd3ac11b823bec5089a8e6ff66"), looks := false }, kinds := [], alts := [], laidByText := true, laidKinds := [.data, .data], laidTests := true, laidLooks := .later }
def LinFixedUptoCardSaid : Prop := Claim7.holds Tryz.pinned (.plain (OpenSpec.upto linFixedSpec)) linFixedUptoCard

/-- THE SECOND FORM's CARD OF 'jigsawlaw11.MulFilters'. -/
def mulFiltersUptoCard : Claim7 := { stood := { row := mulFiltersUptoRow, standIns := [], harness := (true, "1fd1456aa44974ebbe5c31d6f08e488c129140dd3ac11b823bec5089a8e6ff66"), looks := false }, kinds := [], alts := [], laidByText := true, laidKinds := [.data, .data], laidTests := true, laidLooks := .later }
def MulFiltersUptoCardSaid : Prop := Claim7.holds Tryz.pinned (.plain (OpenSpec.upto mulFiltersSpec)) mulFiltersUptoCard

/-- THE SECOND FORM's CARD OF 'jigsawlaw11.MulRefuses'. -/
def mulRefusesUptoCard : Claim7 := { stood := { row := mulRefusesUptoRow, standIns := [], harness := (true, "1fd1456aa44974ebbe5c31d6f08e488c129140dd3ac11b823bec5089a8e6ff66"), looks := false }, kinds := [], alts := [], laidByText := true, laidKinds := [.data, .data], laidTests := true, laidLooks := .later }
def MulRefusesUptoCardSaid : Prop := Claim7.holds Tryz.pinned (.plain (OpenSpec.upto mulRefusesSpec)) mulRefusesUptoCard

/-- THE SECOND FORM's CARD OF 'jigsawlaw11.MulKeeps'. -/
def mulKeepsUptoCard : Claim7 := { stood := { row := mulKeepsUptoRow, standIns := [], harness := (true, "1fd1456aa44974ebbe5c31d6f08e488c129140dd3ac11b823bec5089a8e6ff66"), looks := false }, kinds := [], alts := [], laidByText := true, laidKinds := [.data, .data], laidTests := true, laidLooks := .later }
def MulKeepsUptoCardSaid : Prop := Claim7.holds Tryz.pinned (.plain (OpenSpec.upto mulKeepsSpec)) mulKeepsUptoCard

/-- THE SECOND FORM's CARD OF 'jigsawlaw11.MulFixed'. -/
def mulFixedUptoCard : Claim7 := { stood := { row := mulFixedUptoRow, standIns := [], harness := (true, "1fd1456aa44974ebbe5c31d6f08e488c129140dd3ac11b823bec5089a8e6ff66"), looks := false }, kinds := [], alts := [], laidByText := true, laidKinds := [.data, .data], laidTests := true, laidLooks := .later }
def MulFixedUptoCardSaid : Prop := Claim7.holds Tryz.pinned (.plain (OpenSpec.upto mulFixedSpec)) mulFixedUptoCard

/-- THE SECOND FORM's CARD OF 'jigsawlaw11.MulWide'. -/
def mulWideUptoCard : Claim7 := { stood := { row := mulWideUptoRow, standIns := [], harness := (true, "1fd1456aa44974ebbe5c31d6f08e488c129140dd3ac11b823bec5089a8e6ff66"), looks := false }, kinds := [], alts := [], laidByText := true, laidKinds := [.data, .data], laidTests := true, laidLooks := .later }
def MulWideUptoCardSaid : Prop := Claim7.holds Tryz.pinned (.plain (OpenSpec.upto mulWideSpec)) mulWideUptoCard
end Rows
end Go.Proofs.YtcmdgjkoalophaaGreatDoor
