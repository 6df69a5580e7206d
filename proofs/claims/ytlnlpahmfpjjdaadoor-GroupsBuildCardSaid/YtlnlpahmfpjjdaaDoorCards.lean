/-
  DERIVED. GIVEN WITH THE SEED: THE CARDS: each row of YtlnlpahmfpjjdaaDoorRows.lean that lists a variable, with what it lists TIED to the program's text (the seventh form; the later family's looks); each row that meets fmt, with fmt's text TOLD by the authors' own Lean function (tested against real Go, not proved from fmt's source: count such statements apart). THE CARD IS WHAT COUNTS. Prove the row's statement (the work); the ties are given (YtlnlpahmfpjjdaaDoorTie.lean); close each card by the builder's one call (the guide's Derived/Test/ToyasCard.lean, 'card_holds'). Laid BY PROGRAM, IN A SANDBOX (cutbox-door.mjs). By AI agents, Wed Nov 11 2026. No macro, syntax, notation, axiom, sorry.
-/
import Derived.Test.YtlnlpahmfpjjdaaDoorRows
import GoSem.ClaimSeven
namespace Go.Proofs.YtlnlpahmfpjjdaaDoor
namespace Rows

/-- THE TIED CARD OF 'oxbowlaw7.DirectKinds'. -/
def directKindsCard : Claim7 := { stood := { row := directKindsRow, standIns := [], harness := (true, "7ac2fcb89e96a63a4728485698f5f667b1e97903470794dd6e434dfbf4dbdc77"), looks := false }, kinds := [], alts := [], laidByText := true, laidKinds := [.data], laidTests := true, laidLooks := .later }
def DirectKindsCardSaid : Prop := Claim7.holds Tryd.pinned (.plain (OpenSpec.ofChange directKindsSpec)) directKindsCard

/-- THE TIED CARD OF 'oxbowlaw7.DirectWords'. -/
def directWordsCard : Claim7 := { stood := { row := directWordsRow, standIns := [], harness := (true, "7ac2fcb89e96a63a4728485698f5f667b1e97903470794dd6e434dfbf4dbdc77"), looks := false }, kinds := [], alts := [], laidByText := true, laidKinds := [.data], laidTests := true, laidLooks := .later }
def DirectWordsCardSaid : Prop := Claim7.holds Tryd.pinned (.plain (OpenSpec.ofChange directWordsSpec)) directWordsCard

/-- THE TIED CARD OF 'oxbowlaw7.DirectRest'. -/
def directRestCard : Claim7 := { stood := { row := directRestRow, standIns := [], harness := (true, "7ac2fcb89e96a63a4728485698f5f667b1e97903470794dd6e434dfbf4dbdc77"), looks := false }, kinds := [], alts := [], laidByText := true, laidKinds := [.data], laidTests := true, laidLooks := .later }
def DirectRestCardSaid : Prop := Claim7.holds Tryd.pinned (.plain (OpenSpec.ofChange directRestSpec)) directRestCard

/-- THE TIED CARD OF 'oxbowlaw8.GroupsBuild'. -/
def groupsBuildCard : Claim7 := { stood := { row := groupsBuildRow, standIns := [], harness := (true, "7ac2fcb89e96a63a4728485698f5f667b1e97903470794dd6e434dfbf4dbdc77"), looks := false }, kinds := [], alts := [], laidByText := true, laidKinds := [.data], laidTests := true, laidLooks := .later }
def GroupsBuildCardSaid : Prop := Claim7.holds Tryd.pinned (.plain (OpenSpec.ofChange groupsBuildSpec)) groupsBuildCard

/-- THE TIED CARD OF 'oxbowlaw8.GroupsOrder'. -/
def groupsOrderCard : Claim7 := { stood := { row := groupsOrderRow, standIns := [], harness := (true, "7ac2fcb89e96a63a4728485698f5f667b1e97903470794dd6e434dfbf4dbdc77"), looks := false }, kinds := [], alts := [], laidByText := true, laidKinds := [.data], laidTests := true, laidLooks := .later }
def GroupsOrderCardSaid : Prop := Claim7.holds Tryd.pinned (.plain (OpenSpec.ofChange groupsOrderSpec)) groupsOrderCard

/-- THE TIED CARD OF 'oxbowlaw8.GroupsDeep'. -/
def groupsDeepCard : Claim7 := { stood := { row := groupsDeepRow, standIns := [], harness := (true, "7ac2fcb89e96a63a4728485698f5f667b1e97903470794dd6e434dfbf4dbdc77"), looks := false }, kinds := [], alts := [], laidByText := true, laidKinds := [.data], laidTests := true, laidLooks := .later }
def GroupsDeepCardSaid : Prop := Claim7.holds Tryd.pinned (.plain (OpenSpec.ofChange groupsDeepSpec)) groupsDeepCard

/-- THE TIED CARD OF 'oxbowlaw8.GroupsRaw'. -/
def groupsRawCard : Claim7 := { stood := { row := groupsRawRow, standIns := [], harness := (true, "7ac2fcb89e96a63a4728485698f5f667b1e97903470794dd6e434dfbf4dbdc77"), looks := false }, kinds := [], alts := [], laidByText := true, laidKinds := [.data], laidTests := true, laidLooks := .later }
def GroupsRawCardSaid : Prop := Claim7.holds Tryd.pinned (.plain (OpenSpec.ofChange groupsRawSpec)) groupsRawCard

/-- THE SECOND FORM's CARD OF 'oxbowlaw7.DirectKinds'. -/
def directKindsUptoCard : Claim7 := { stood := { row := directKindsUptoRow, standIns := [], harness := (true, "7ac2fcb89e96a63a4728485698f5f667b1e97903470794dd6e434dfbf4dbdc77"), looks := false }, kinds := [], alts := [], laidByText := true, laidKinds := [.data], laidTests := true, laidLooks := .later }
def DirectKindsUptoCardSaid : Prop := Claim7.holds Tryd.pinned (.plain (OpenSpec.upto directKindsSpec)) directKindsUptoCard

/-- THE SECOND FORM's CARD OF 'oxbowlaw7.DirectWords'. -/
def directWordsUptoCard : Claim7 := { stood := { row := directWordsUptoRow, standIns := [], harness := (true, "7ac2fcb89e96a63a4728485698f5f667b1e97903470794dd6e434dfbf4dbdc77"), looks := false }, kinds := [], alts := [], laidByText := true, laidKinds := [.data], laidTests := true, laidLooks := .later }
def DirectWordsUptoCardSaid : Prop := Claim7.holds Tryd.pinned (.plain (OpenSpec.upto directWordsSpec)) directWordsUptoCard

/-- THE SECOND FORM's CARD OF 'oxbowlaw7.DirectRest'. -/
def directRestUptoCard : Claim7 := { stood := { row := directRestUptoRow, standIns := [], harness := (true, "7ac2fcb89e96a63a4728485698f5f667b1e97903470794dd6e434dfbf4dbdc77"), looks := false }, kinds := [], alts := [], laidByText := true, laidKinds := [.data], laidTests := true, laidLooks := .later }
def DirectRestUptoCardSaid : Prop := Claim7.holds Tryd.pinned (.plain (OpenSpec.upto directRestSpec)) directRestUptoCard

/-- THE SECOND FORM's CARD OF 'oxbowlaw8.GroupsBuild'. -/
def groupsBuildUptoCard : Claim7 := { stood := { row := groupsBuildUptoRow, standIns := [], harness := (true, "7ac2fcb89e96a63a4728485698f5f667b1e97903470794dd6e434dfbf4dbdc77"), looks := false }, kinds := [], alts := [], laidByText := true, laidKinds := [.data], laidTests := true, laidLooks := .later }
def GroupsBuildUptoCardSaid : Prop := Claim7.holds Tryd.pinned (.plain (OpenSpec.upto groupsBuildSpec)) groupsBuildUptoCard

/-- THE SECOND FORM's CARD OF 'oxbowlaw8.GroupsOrder'. -/
def groupsOrderUptoCard : Claim7 := { stood := { row := groupsOrderUptoRow, standIns := [], harness := (true, "7ac2fcb89e96a63a4728485698f5f667b1e97903470794dd6e434dfbf4dbdc77"), looks := false }, kinds := [], alts := [], laidByText := true, laidKinds := [.data], laidTests := true, laidLooks := .later }
def GroupsOrderUptoCardSaid : Prop := Claim7.holds Tryd.pinned (.plain (OpenSpec.upto groupsOrderSpec)) groupsOrderUptoCard

/-- THE SECOND FORM's CARD OF 'oxbowlaw8.GroupsDeep'. -/
def groupsDeepUptoCard : Claim7 := { stood := { row := groupsDeepUptoRow, standIns := [], harness := (true, "7ac2fcb89e96a63a4728485698f5f667b1e97903470794dd6e434dfbf4dbdc77"), looks := false }, kinds := [], alts := [], laidByText := true, laidKinds := [.data], laidTests := true, laidLooks := .later }
def GroupsDeepUptoCardSaid : Prop := Claim7.holds Tryd.pinned (.plain (OpenSpec.upto groupsDeepSpec)) groupsDeepUptoCard

/-- THE SECOND FORM's CARD OF 'oxbowlaw8.GroupsRaw'. -/
def groupsRawUptoCard : Claim7 := { stood := { row := groupsRawUptoRow, standIns := [], harness := (true, "7ac2fcb89e96a63a4728485698f5f667b1e97903470794dd6e434dfbf4dbdc77"), looks := false }, kinds := [], alts := [], laidByText := true, laidKinds := [.data], laidTests := true, laidLooks := .later }
def GroupsRawUptoCardSaid : Prop := Claim7.holds Tryd.pinned (.plain (OpenSpec.upto groupsRawSpec)) groupsRawUptoCard
end Rows
end Go.Proofs.YtlnlpahmfpjjdaaDoor
