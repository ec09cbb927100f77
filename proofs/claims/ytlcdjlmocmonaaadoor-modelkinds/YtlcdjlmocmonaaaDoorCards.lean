/-
  DERIVED. GIVEN WITH THE SEED: THE CARDS: each row of YtlcdjlmocmonaaaDoorRows.lean that lists a variable, with what it lists TIED to the program's text (the seventh form; the later family's looks); each row that meets fmt, with fmt's text TOLD by the authors' own Lean function (tested against real Go, not proved from fmt's source: count such statements apart). THE CARD IS WHAT COUNTS. Prove the row's statement (the work); the ties are given (YtlcdjlmocmonaaaDoorTie.lean); close each card by the builder's one call (the guide's Derived/Test/ToyasCard.lean, 'card_holds'). Laid BY PROGRAM, IN A SANDBOX (cutbox-door.mjs). By AI agents, Wed Nov 11 2026. No macro, syntax, notation, axiom, sorry.
-/
import Derived.Test.YtlcdjlmocmonaaaDoorRows
import GoSem.ClaimSeven
namespace Go.Proofs.YtlcdjlmocmonaaaDoor
namespace Rows

/-- THE TIED CARD OF 'jigsawlaw06.ModelKinds'. -/
def modelKindsCard : Claim7 := { stood := { row := modelKindsRow, standIns := [], harness := (true, "21fd6a6860f029ce7018437a28cc5a85d242e8fb66159c7be9a3dea63d37721c"), looks := false }, kinds := [], alts := [], laidByText := true, laidKinds := [.data], laidTests := true, laidLooks := .later }
def ModelKindsCardSaid : Prop := Claim7.holds Tryd.pinned (.plain (OpenSpec.ofChange modelKindsSpec)) modelKindsCard

/-- THE TIED CARD OF 'jigsawlaw06.ModelMany'. -/
def modelManyCard : Claim7 := { stood := { row := modelManyRow, standIns := [], harness := (true, "21fd6a6860f029ce7018437a28cc5a85d242e8fb66159c7be9a3dea63d37721c"), looks := false }, kinds := [], alts := [], laidByText := true, laidKinds := [.data], laidTests := true, laidLooks := .later }
def ModelManyCardSaid : Prop := Claim7.holds Tryd.pinned (.plain (OpenSpec.ofChange modelManySpec)) modelManyCard

/-- THE SECOND FORM's CARD OF 'jigsawlaw06.ModelKinds'. -/
def modelKindsUptoCard : Claim7 := { stood := { row := modelKindsUptoRow, standIns := [], harness := (true, "21fd6a6860f029ce7018437a28cc5a85d242e8fb66159c7be9a3dea63d37721c"), looks := false }, kinds := [], alts := [], laidByText := true, laidKinds := [.data], laidTests := true, laidLooks := .later }
def ModelKindsUptoCardSaid : Prop := Claim7.holds Tryd.pinned (.plain (OpenSpec.upto modelKindsSpec)) modelKindsUptoCard

/-- THE SECOND FORM's CARD OF 'jigsawlaw06.ModelMany'. -/
def modelManyUptoCard : Claim7 := { stood := { row := modelManyUptoRow, standIns := [], harness := (true, "21fd6a6860f029ce7018437a28cc5a85d242e8fb66159c7be9a3dea63d37721c"), looks := false }, kinds := [], alts := [], laidByText := true, laidKinds := [.data], laidTests := true, laidLooks := .later }
def ModelManyUptoCardSaid : Prop := Claim7.holds Tryd.pinned (.plain (OpenSpec.upto modelManySpec)) modelManyUptoCard
end Rows
end Go.Proofs.YtlcdjlmocmonaaaDoor
