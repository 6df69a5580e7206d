/-
  DERIVED. GIVEN WITH THE SEED: THE CARDS: each row of YtfjdfdpelilelaaDoorRows.lean that lists a variable, with what it lists TIED to the program's text (the seventh form; the later family's looks); each row that meets fmt, with fmt's text TOLD by the authors' own Lean function (tested against real Go, not proved from fmt's source: count such statements apart). THE CARD IS WHAT COUNTS. Prove the row's statement (the work); the ties are given (YtfjdfdpelilelaaDoorTie.lean); close each card by the builder's one call (the guide's Derived/Test/ToyasCard.lean, 'card_holds'). Laid BY PROGRAM, IN A SANDBOX (cutbox-door.mjs). By AI agents, Wed Nov 11 2026. No macro, syntax, notation, axiom, sorry.
-/
import Derived.Test.YtfjdfdpelilelaaDoorRows
import GoSem.ClaimSeven
namespace Go.Proofs.YtfjdfdpelilelaaDoor
namespace Rows

/-- THE TIED CARD OF 'oxbowlaw3.FilesFind'. -/
def filesFindCard : Claim7 := { stood := { row := filesFindRow, standIns := [], harness := (true, "666f3f3235ea8fb3b9612c30b0c915b5aaec6d406b3a3b3d6c681a83c6d982c2"), looks := false }, kinds := [], alts := [], laidByText := true, laidKinds := [.data, .pinned], laidTests := true, laidLooks := .later }
def FilesFindCardSaid : Prop := Claim7.holds Tryd.pinned (.plain (OpenSpec.ofChange filesFindSpec)) filesFindCard

/-- THE TIED CARD OF 'oxbowlaw3.FilesFull'. -/
def filesFullCard : Claim7 := { stood := { row := filesFullRow, standIns := [], harness := (true, "666f3f3235ea8fb3b9612c30b0c915b5aaec6d406b3a3b3d6c681a83c6d982c2"), looks := false }, kinds := [], alts := [], laidByText := true, laidKinds := [.data, .pinned], laidTests := true, laidLooks := .later }
def FilesFullCardSaid : Prop := Claim7.holds Tryd.pinned (.plain (OpenSpec.ofChange filesFullSpec)) filesFullCard

/-- THE TIED CARD OF 'oxbowlaw3.FilesApart'. -/
def filesApartCard : Claim7 := { stood := { row := filesApartRow, standIns := [], harness := (true, "666f3f3235ea8fb3b9612c30b0c915b5aaec6d406b3a3b3d6c681a83c6d982c2"), looks := false }, kinds := [], alts := [], laidByText := true, laidKinds := [.data, .pinned], laidTests := true, laidLooks := .later }
def FilesApartCardSaid : Prop := Claim7.holds Tryd.pinned (.plain (OpenSpec.ofChange filesApartSpec)) filesApartCard

/-- THE TIED CARD OF 'oxbowlaw3.FilesOrder'. -/
def filesOrderCard : Claim7 := { stood := { row := filesOrderRow, standIns := [], harness := (true, "666f3f3235ea8fb3b9612c30b0c915b5aaec6d406b3a3b3d6c681a83c6d982c2"), looks := false }, kinds := [], alts := [], laidByText := true, laidKinds := [.data, .pinned], laidTests := true, laidLooks := .later }
def FilesOrderCardSaid : Prop := Claim7.holds Tryd.pinned (.plain (OpenSpec.ofChange filesOrderSpec)) filesOrderCard

/-- THE SECOND FORM's CARD OF 'oxbowlaw3.FilesFind'. -/
def filesFindUptoCard : Claim7 := { stood := { row := filesFindUptoRow, standIns := [], harness := (true, "666f3f3235ea8fb3b9612c30b0c915b5aaec6d406b3a3b3d6c681a83c6d982c2"), looks := false }, kinds := [], alts := [], laidByText := true, laidKinds := [.data, .pinned], laidTests := true, laidLooks := .later }
def FilesFindUptoCardSaid : Prop := Claim7.holds Tryd.pinned (.plain (OpenSpec.upto filesFindSpec)) filesFindUptoCard

/-- THE SECOND FORM's CARD OF 'oxbowlaw3.FilesFull'. -/
def filesFullUptoCard : Claim7 := { stood := { row := filesFullUptoRow, standIns := [], harness := (true, "666f3f3235ea8fb3b9612c30b0c915b5aaec6d406b3a3b3d6c681a83c6d982c2"), looks := false }, kinds := [], alts := [], laidByText := true, laidKinds := [.data, .pinned], laidTests := true, laidLooks := .later }
def FilesFullUptoCardSaid : Prop := Claim7.holds Tryd.pinned (.plain (OpenSpec.upto filesFullSpec)) filesFullUptoCard

/-- THE SECOND FORM's CARD OF 'oxbowlaw3.FilesApart'. -/
def filesApartUptoCard : Claim7 := { stood := { row := filesApartUptoRow, standIns := [], harness := (true, "666f3f3235ea8fb3b9612c30b0c915b5aaec6d406b3a3b3d6c681a83c6d982c2"), looks := false }, kinds := [], alts := [], laidByText := true, laidKinds := [.data, .pinned], laidTests := true, laidLooks := .later }
def FilesApartUptoCardSaid : Prop := Claim7.holds Tryd.pinned (.plain (OpenSpec.upto filesApartSpec)) filesApartUptoCard

/-- THE SECOND FORM's CARD OF 'oxbowlaw3.FilesOrder'. -/
def filesOrderUptoCard : Claim7 := { stood := { row := filesOrderUptoRow, standIns := [], harness := (true, "666f3f3235ea8fb3b9612c30b0c915b5aaec6d406b3a3b3d6c681a83c6d982c2"), looks := false }, kinds := [], alts := [], laidByText := true, laidKinds := [.data, .pinned], laidTests := true, laidLooks := .later }
def FilesOrderUptoCardSaid : Prop := Claim7.holds Tryd.pinned (.plain (OpenSpec.upto filesOrderSpec)) filesOrderUptoCard
end Rows
end Go.Proofs.YtfjdfdpelilelaaDoor
