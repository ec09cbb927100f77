/-
  DERIVED. GIVEN WITH THE SEED: THE CARDS: each row of YtgfhnmlakjcfaaaDoorRows.lean that lists a variable, with what it lists TIED to the program's text (the seventh form; the later family's looks); each row that meets fmt, with fmt's text TOLD by the authors' own Lean function (tested against real Go, not proved from fmt's source: count such statements apart). THE CARD IS WHAT COUNTS. Prove the row's statement (the work); the ties are given (YtgfhnmlakjcfaaaDoorTie.lean); close each card by the builder's one call (the guide's Derived/Test/ToyasCard.lean, 'card_holds'). Laid BY PROGRAM, IN A SANDBOX (cutbox-door.mjs). By AI agents, Wed Nov 11 2026. No macro, syntax, notation, axiom, sorry.
-/
import Derived.Test.YtgfhnmlakjcfaaaDoorRows
import GoSem.ClaimSeven
namespace Go.Proofs.YtgfhnmlakjcfaaaDoor
namespace Rows

/-- THE TIED CARD OF 'jigsawlaw02.DomMade'. -/
def domMadeCard : Claim7 := { stood := { row := domMadeRow, standIns := [], harness := (true, "a65d566e275481c085e7c8aae2552954b5e387b714989b494b14f4dd9ac98e08"), looks := false }, kinds := [], alts := [], laidByText := true, laidKinds := [.data], laidTests := true, laidLooks := .later }
def DomMadeCardSaid : Prop := Claim7.holds Tryd.pinned (.plain (OpenSpec.ofChange domMadeSpec)) domMadeCard

/-- THE TIED CARD OF 'jigsawlaw02.DomPlays'. -/
def domPlaysCard : Claim7 := { stood := { row := domPlaysRow, standIns := [], harness := (true, "a65d566e275481c085e7c8aae2552954b5e387b714989b494b14f4dd9ac98e08"), looks := false }, kinds := [], alts := [], laidByText := true, laidKinds := [.data], laidTests := true, laidLooks := .later }
def DomPlaysCardSaid : Prop := Claim7.holds Tryd.pinned (.plain (OpenSpec.ofChange domPlaysSpec)) domPlaysCard

/-- THE TIED CARD OF 'jigsawlaw02.DomSets'. -/
def domSetsCard : Claim7 := { stood := { row := domSetsRow, standIns := [], harness := (true, "a65d566e275481c085e7c8aae2552954b5e387b714989b494b14f4dd9ac98e08"), looks := false }, kinds := [], alts := [], laidByText := true, laidKinds := [.data], laidTests := true, laidLooks := .later }
def DomSetsCardSaid : Prop := Claim7.holds Tryd.pinned (.plain (OpenSpec.ofChange domSetsSpec)) domSetsCard

/-- THE TIED CARD OF 'jigsawlaw02.DomWalks'. -/
def domWalksCard : Claim7 := { stood := { row := domWalksRow, standIns := [], harness := (true, "a65d566e275481c085e7c8aae2552954b5e387b714989b494b14f4dd9ac98e08"), looks := false }, kinds := [], alts := [], laidByText := true, laidKinds := [.data], laidTests := true, laidLooks := .later }
def DomWalksCardSaid : Prop := Claim7.holds Tryd.pinned (.plain (OpenSpec.ofChange domWalksSpec)) domWalksCard

/-- THE SECOND FORM's CARD OF 'jigsawlaw02.DomMade'. -/
def domMadeUptoCard : Claim7 := { stood := { row := domMadeUptoRow, standIns := [], harness := (true, "a65d566e275481c085e7c8aae2552954b5e387b714989b494b14f4dd9ac98e08"), looks := false }, kinds := [], alts := [], laidByText := true, laidKinds := [.data], laidTests := true, laidLooks := .later }
def DomMadeUptoCardSaid : Prop := Claim7.holds Tryd.pinned (.plain (OpenSpec.upto domMadeSpec)) domMadeUptoCard

/-- THE SECOND FORM's CARD OF 'jigsawlaw02.DomPlays'. -/
def domPlaysUptoCard : Claim7 := { stood := { row := domPlaysUptoRow, standIns := [], harness := (true, "a65d566e275481c085e7c8aae2552954b5e387b714989b494b14f4dd9ac98e08"), looks := false }, kinds := [], alts := [], laidByText := true, laidKinds := [.data], laidTests := true, laidLooks := .later }
def DomPlaysUptoCardSaid : Prop := Claim7.holds Tryd.pinned (.plain (OpenSpec.upto domPlaysSpec)) domPlaysUptoCard

/-- THE SECOND FORM's CARD OF 'jigsawlaw02.DomSets'. -/
def domSetsUptoCard : Claim7 := { stood := { row := domSetsUptoRow, standIns := [], harness := (true, "a65d566e275481c085e7c8aae2552954b5e387b714989b494b14f4dd9ac98e08"), looks := false }, kinds := [], alts := [], laidByText := true, laidKinds := [.data], laidTests := true, laidLooks := .later }
def DomSetsUptoCardSaid : Prop := Claim7.holds Tryd.pinned (.plain (OpenSpec.upto domSetsSpec)) domSetsUptoCard

/-- THE SECOND FORM's CARD OF 'jigsawlaw02.DomWalks'. -/
def domWalksUptoCard : Claim7 := { stood := { row := domWalksUptoRow, standIns := [], harness := (true, "a65d566e275481c085e7c8aae2552954b5e387b714989b494b14f4dd9ac98e08"), looks := false }, kinds := [], alts := [], laidByText := true, laidKinds := [.data], laidTests := true, laidLooks := .later }
def DomWalksUptoCardSaid : Prop := Claim7.holds Tryd.pinned (.plain (OpenSpec.upto domWalksSpec)) domWalksUptoCard
end Rows
end Go.Proofs.YtgfhnmlakjcfaaaDoor
