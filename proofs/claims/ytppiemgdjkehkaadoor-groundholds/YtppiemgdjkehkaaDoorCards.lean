/-
  DERIVED. GIVEN WITH THE SEED: THE CARDS: each row of YtppiemgdjkehkaaDoorRows.lean that lists a variable, with what it lists TIED to the program's text (the seventh form; the later family's looks); each row that meets fmt, with fmt's text TOLD by the authors' own Lean function (tested against real Go, not proved from fmt's source: count such statements apart). THE CARD IS WHAT COUNTS. Prove the row's statement (the work); the ties are given (YtppiemgdjkehkaaDoorTie.lean); close each card by the builder's one call (the guide's Derived/Test/ToyasCard.lean, 'card_holds'). Laid BY PROGRAM, IN A SANDBOX (cutbox-door.mjs). By AI agents, Wed Nov 11 2026. No macro, syntax, notation, axiom, sorry.
-/
import Derived.Test.YtppiemgdjkehkaaDoorRows
import GoSem.ClaimSeven
namespace Go.Proofs.YtppiemgdjkehkaaDoor
namespace Rows

/-- THE TIED CARD OF 'jigsawlaw09.GroundHolds'. -/
def groundHoldsCard : Claim7 := { stood := { row := groundHoldsRow, standIns := [], harness := (true, "6f0de284b8427d855f7b0186ac51d00073043c0a6a69f39bc941fdc746137795"), looks := false }, kinds := [], alts := [], laidByText := true, laidKinds := [.data], laidTests := true, laidLooks := .later }
def GroundHoldsCardSaid : Prop := Claim7.holds Tryd.pinned (.plain (OpenSpec.ofChange groundHoldsSpec)) groundHoldsCard

/-- THE TIED CARD OF 'jigsawlaw09.GroundOrder'. -/
def groundOrderCard : Claim7 := { stood := { row := groundOrderRow, standIns := [], harness := (true, "6f0de284b8427d855f7b0186ac51d00073043c0a6a69f39bc941fdc746137795"), looks := false }, kinds := [], alts := [], laidByText := true, laidKinds := [.data], laidTests := true, laidLooks := .later }
def GroundOrderCardSaid : Prop := Claim7.holds Tryd.pinned (.plain (OpenSpec.ofChange groundOrderSpec)) groundOrderCard

/-- THE SECOND FORM's CARD OF 'jigsawlaw09.GroundHolds'. -/
def groundHoldsUptoCard : Claim7 := { stood := { row := groundHoldsUptoRow, standIns := [], harness := (true, "6f0de284b8427d855f7b0186ac51d00073043c0a6a69f39bc941fdc746137795"), looks := false }, kinds := [], alts := [], laidByText := true, laidKinds := [.data], laidTests := true, laidLooks := .later }
def GroundHoldsUptoCardSaid : Prop := Claim7.holds Tryd.pinned (.plain (OpenSpec.upto groundHoldsSpec)) groundHoldsUptoCard

/-- THE SECOND FORM's CARD OF 'jigsawlaw09.GroundOrder'. -/
def groundOrderUptoCard : Claim7 := { stood := { row := groundOrderUptoRow, standIns := [], harness := (true, "6f0de284b8427d855f7b0186ac51d00073043c0a6a69f39bc941fdc746137795"), looks := false }, kinds := [], alts := [], laidByText := true, laidKinds := [.data], laidTests := true, laidLooks := .later }
def GroundOrderUptoCardSaid : Prop := Claim7.holds Tryd.pinned (.plain (OpenSpec.upto groundOrderSpec)) groundOrderUptoCard
end Rows
end Go.Proofs.YtppiemgdjkehkaaDoor
