/-
  NARROWER THAN 'FOR EVERY INPUT', by the rows' own cells (each row's printed sentence says how): DirectKinds: laid · DirectWords: laid · DirectRest: laid · GroupsBuild: laid · GroupsOrder: laid · GroupsDeep: laid · GroupsRaw: loops, laid.
  DERIVED. THE GIVEN ROWS OF THIS SEAT. 7 by the template 'for every input the law returns true; each argument reads behind the call as it read before'; 0 by the template 'total and deterministic' (their statements: YtlnlpahmfpjjdaaDoorTotals.lean).
  GIVEN WITH THE SEED: the statements are not yours to turn. If you find one false, say at which input.
  Laid BY PROGRAM, IN A SANDBOX (cutbox-rows.mjs): the forced cells as the released guide's own fill.sh prints them over the translation e044f743beb3da0a… (all of the seat's roots in one cut). By AI agents, Wed Nov 11 2026. No macro, syntax, notation, axiom, sorry.
-/
import Derived.Test.YtlnlpahmfpjjdaaDoorChecked
import GoSem.Claim
import GoSem.ClaimJoined
import GoSem.ClaimMapViews
import Derived.JoinedTies
import Derived.KernelRfl
namespace Go.Proofs.YtlnlpahmfpjjdaaDoor
/- THE CELL 'sum', in the pinned program and in every row, IS THE sha256 OF THE DUMP (.gsa) THAT YtlnlpahmfpjjdaaDoorProg.lean LOADS. Nothing in Lean hashes anything: it is a label: what it is worth is what the hold of that sum in a sandbox is worth. -/
noncomputable def Tryd.pinned : Pinned := { name := "ytlnlpahmfpjjdaadoor", sum := "e044f743beb3da0a123f0245e32de273ab777b63b6d38151529766262f3896a8", checked := Tryd.checked }
namespace Rows
def none {H : Type} : Left H := { results := [], args := [] }

/- WHAT THE LISTED PACKAGE-LEVEL VARIABLES READ AS WHEN THE CALL BEGINS. Each datum BY PROGRAM (the guide's laid-datum.mjs) off the statement by which the dump's own 'gosem.cut.vars' lays the variable. In a bare row this is a premise. The card (YtlnlpahmfpjjdaaDoorCards.lean) ties it to the program's text. -/
def laid_oxbow_direct_words {H : Type} : DataW H := .agg [.lit (.string []), .lit (.string []), .lit (.string [105, 102]), .lit (.string [105, 102, 100, 101, 102]), .lit (.string [105, 102, 110, 100, 101, 102]), .lit (.string [101, 108, 105, 102]), .lit (.string [101, 108, 115, 101]), .lit (.string [101, 110, 100, 105, 102]), .lit (.string [105, 110, 99, 108, 117, 100, 101]), .lit (.string [100, 101, 102, 105, 110, 101]), .lit (.string [117, 110, 100, 101, 102]), .lit (.string [108, 105, 110, 101]), .lit (.string [101, 114, 114, 111, 114]), .lit (.string [112, 114, 97, 103, 109, 97])]

/-- 'oxbowlaw7.DirectKinds': WHATEVER THE INPUT: true; the input reads as it did. -/
def directKindsSpec : ChangeSpec := { name := "directKinds", fn := fun _ => fun
  | [d1, d2] => { results := [.lit (.bool true)], args := [d1, d2] }
  | _ => none }
def directKindsRow : OpenClaim := { program := "ytlnlpahmfpjjdaadoor", sum := "e044f743beb3da0a123f0245e32de273ab777b63b6d38151529766262f3896a8", func := "oxbow/oxbowlaw7.DirectKinds", spec := "directKinds", named := ["oxbow/direct.words"], apart := false, laid := [("oxbow/direct.words", laid_oxbow_direct_words)] }
def DirectKindsSaid : Prop := directKindsRow.holds Tryd.pinned (OpenSpec.ofChange directKindsSpec)

/-- ITS FALSE NEIGHBOUR: 'it returns false'. Refute it at one input. -/
def directKindsWrong : ChangeSpec := { name := "directKinds", fn := fun _ => fun
  | [d1, d2] => { results := [.lit (.bool false)], args := [d1, d2] }
  | _ => none }
def DirectKindsWrongFalsely : Prop := directKindsRow.holds Tryd.pinned (OpenSpec.ofChange directKindsWrong)

/-- 'oxbowlaw7.DirectWords': WHATEVER THE INPUT: true; the input reads as it did. -/
def directWordsSpec : ChangeSpec := { name := "directWords", fn := fun _ => fun
  | [d1, d2, d3, d4] => { results := [.lit (.bool true)], args := [d1, d2, d3, d4] }
  | _ => none }
def directWordsRow : OpenClaim := { program := "ytlnlpahmfpjjdaadoor", sum := "e044f743beb3da0a123f0245e32de273ab777b63b6d38151529766262f3896a8", func := "oxbow/oxbowlaw7.DirectWords", spec := "directWords", named := ["oxbow/direct.words"], apart := false, laid := [("oxbow/direct.words", laid_oxbow_direct_words)] }
def DirectWordsSaid : Prop := directWordsRow.holds Tryd.pinned (OpenSpec.ofChange directWordsSpec)

/-- ITS FALSE NEIGHBOUR: 'it returns false'. Refute it at one input. -/
def directWordsWrong : ChangeSpec := { name := "directWords", fn := fun _ => fun
  | [d1, d2, d3, d4] => { results := [.lit (.bool false)], args := [d1, d2, d3, d4] }
  | _ => none }
def DirectWordsWrongFalsely : Prop := directWordsRow.holds Tryd.pinned (OpenSpec.ofChange directWordsWrong)

/-- 'oxbowlaw7.DirectRest': WHATEVER THE INPUT: true; the input reads as it did. -/
def directRestSpec : ChangeSpec := { name := "directRest", fn := fun _ => fun
  | [d] => { results := [.lit (.bool true)], args := [d] }
  | _ => none }
def directRestRow : OpenClaim := { program := "ytlnlpahmfpjjdaadoor", sum := "e044f743beb3da0a123f0245e32de273ab777b63b6d38151529766262f3896a8", func := "oxbow/oxbowlaw7.DirectRest", spec := "directRest", named := ["oxbow/direct.words"], apart := false, laid := [("oxbow/direct.words", laid_oxbow_direct_words)] }
def DirectRestSaid : Prop := directRestRow.holds Tryd.pinned (OpenSpec.ofChange directRestSpec)

/-- ITS FALSE NEIGHBOUR: 'it returns false'. Refute it at one input. -/
def directRestWrong : ChangeSpec := { name := "directRest", fn := fun _ => fun
  | [d] => { results := [.lit (.bool false)], args := [d] }
  | _ => none }
def DirectRestWrongFalsely : Prop := directRestRow.holds Tryd.pinned (OpenSpec.ofChange directRestWrong)

/-- 'oxbowlaw8.GroupsBuild': WHATEVER THE INPUT: true; the input reads as it did. -/
def groupsBuildSpec : ChangeSpec := { name := "groupsBuild", fn := fun _ => fun
  | [d] => { results := [.lit (.bool true)], args := [d] }
  | _ => none }
def groupsBuildRow : OpenClaim := { program := "ytlnlpahmfpjjdaadoor", sum := "e044f743beb3da0a123f0245e32de273ab777b63b6d38151529766262f3896a8", func := "oxbow/oxbowlaw8.GroupsBuild", spec := "groupsBuild", unfollowed := true, recurses := true, named := ["oxbow/direct.words"], apart := false, laid := [("oxbow/direct.words", laid_oxbow_direct_words)] }
def GroupsBuildSaid : Prop := groupsBuildRow.holds Tryd.pinned (OpenSpec.ofChange groupsBuildSpec)

/-- ITS FALSE NEIGHBOUR: 'it returns false'. Refute it at one input. -/
def groupsBuildWrong : ChangeSpec := { name := "groupsBuild", fn := fun _ => fun
  | [d] => { results := [.lit (.bool false)], args := [d] }
  | _ => none }
def GroupsBuildWrongFalsely : Prop := groupsBuildRow.holds Tryd.pinned (OpenSpec.ofChange groupsBuildWrong)

/-- 'oxbowlaw8.GroupsOrder': WHATEVER THE INPUT: true; the input reads as it did. -/
def groupsOrderSpec : ChangeSpec := { name := "groupsOrder", fn := fun _ => fun
  | [d] => { results := [.lit (.bool true)], args := [d] }
  | _ => none }
def groupsOrderRow : OpenClaim := { program := "ytlnlpahmfpjjdaadoor", sum := "e044f743beb3da0a123f0245e32de273ab777b63b6d38151529766262f3896a8", func := "oxbow/oxbowlaw8.GroupsOrder", spec := "groupsOrder", unfollowed := true, recurses := true, named := ["oxbow/direct.words"], apart := false, laid := [("oxbow/direct.words", laid_oxbow_direct_words)] }
def GroupsOrderSaid : Prop := groupsOrderRow.holds Tryd.pinned (OpenSpec.ofChange groupsOrderSpec)

/-- ITS FALSE NEIGHBOUR: 'it returns false'. Refute it at one input. -/
def groupsOrderWrong : ChangeSpec := { name := "groupsOrder", fn := fun _ => fun
  | [d] => { results := [.lit (.bool false)], args := [d] }
  | _ => none }
def GroupsOrderWrongFalsely : Prop := groupsOrderRow.holds Tryd.pinned (OpenSpec.ofChange groupsOrderWrong)

/-- 'oxbowlaw8.GroupsDeep': WHATEVER THE INPUT: true; the input reads as it did. -/
def groupsDeepSpec : ChangeSpec := { name := "groupsDeep", fn := fun _ => fun
  | [d1, d2] => { results := [.lit (.bool true)], args := [d1, d2] }
  | _ => none }
def groupsDeepRow : OpenClaim := { program := "ytlnlpahmfpjjdaadoor", sum := "e044f743beb3da0a123f0245e32de273ab777b63b6d38151529766262f3896a8", func := "oxbow/oxbowlaw8.GroupsDeep", spec := "groupsDeep", unfollowed := true, recurses := true, named := ["oxbow/direct.words"], apart := false, laid := [("oxbow/direct.words", laid_oxbow_direct_words)] }
def GroupsDeepSaid : Prop := groupsDeepRow.holds Tryd.pinned (OpenSpec.ofChange groupsDeepSpec)

/-- ITS FALSE NEIGHBOUR: 'it returns false'. Refute it at one input. -/
def groupsDeepWrong : ChangeSpec := { name := "groupsDeep", fn := fun _ => fun
  | [d1, d2] => { results := [.lit (.bool false)], args := [d1, d2] }
  | _ => none }
def GroupsDeepWrongFalsely : Prop := groupsDeepRow.holds Tryd.pinned (OpenSpec.ofChange groupsDeepWrong)

/-- 'oxbowlaw8.GroupsRaw': WHATEVER THE INPUT: true; the input reads as it did. -/
def groupsRawSpec : ChangeSpec := { name := "groupsRaw", fn := fun _ => fun
  | [d] => { results := [.lit (.bool true)], args := [d] }
  | _ => none }
def groupsRawRow : OpenClaim := { program := "ytlnlpahmfpjjdaadoor", sum := "e044f743beb3da0a123f0245e32de273ab777b63b6d38151529766262f3896a8", func := "oxbow/oxbowlaw8.GroupsRaw", spec := "groupsRaw", unfollowed := true, recurses := true, named := ["oxbow/direct.words"], loops := true, apart := false, laid := [("oxbow/direct.words", laid_oxbow_direct_words)] }
def GroupsRawSaid : Prop := groupsRawRow.holds Tryd.pinned (OpenSpec.ofChange groupsRawSpec)

/-- ITS FALSE NEIGHBOUR: 'it returns false'. Refute it at one input. -/
def groupsRawWrong : ChangeSpec := { name := "groupsRaw", fn := fun _ => fun
  | [d] => { results := [.lit (.bool false)], args := [d] }
  | _ => none }
def GroupsRawWrongFalsely : Prop := groupsRawRow.holds Tryd.pinned (OpenSpec.ofChange groupsRawWrong)

/- THE SECOND FORM. 'bulk': how many values and letters a reading holds, each counted each time it is reached (what is shared counts as often as it is met; a slice's spare places count too). A statement '..UptoSaid' is the law's where the arguments, and the package variables that the reading takes, are together of bulk at most 1048576: NARROWER than '..Said'. Prove '..Said' where nothing that the law and all that it calls make is longer than what came in: it says more and counts as full. Else prove '..UptoSaid'. A law counts once. -/
mutual
def uptoBulk {H : Type} : DataW H → Nat
  | .lit (.string bytes) => bytes.length + 1
  | .lit _ => 1
  | .nil => 1
  | .ptr d => uptoBulk d + 1
  | .slice elems spare => uptoBulkAll elems + uptoBulkAll spare + 1
  | .agg parts => uptoBulkAll parts + 1
  | .iface _ d => uptoBulk d + 1
  | .map entries => uptoBulkEntries entries + 1
  | .held _ => 1
def uptoBulkAll {H : Type} : List (DataW H) → Nat
  | [] => 0
  | d :: r => uptoBulk d + uptoBulkAll r
def uptoBulkEntries {H : Type} : List (Lit × DataW H) → Nat
  | [] => 0
  | x :: r => uptoBulkEntry x + uptoBulkEntries r
def uptoBulkEntry {H : Type} : Lit × DataW H → Nat
  | (.string bytes, d) => bytes.length + uptoBulk d + 1
  | (_, d) => uptoBulk d + 1
 end
def uptoSmall : (H : Type) → List (DataW H) → Bool := fun _ ds => decide (uptoBulkAll ds ≤ 1048576)
def OpenSpec.upto (s : _root_.Go.ChangeSpec) : _root_.Go.OpenSpec := { _root_.Go.OpenSpec.ofChange s with cond := some uptoSmall }

/-- 'oxbowlaw7.DirectKinds', WHERE WHAT IT READS IS OF BULK AT MOST 1048576: true; the input reads as it did. -/
def directKindsUptoRow : OpenClaim := { program := "ytlnlpahmfpjjdaadoor", sum := "e044f743beb3da0a123f0245e32de273ab777b63b6d38151529766262f3896a8", func := "oxbow/oxbowlaw7.DirectKinds", spec := "directKinds", named := ["oxbow/direct.words"], apart := false, laid := [("oxbow/direct.words", laid_oxbow_direct_words)], narrowed := true }
def DirectKindsUptoSaid : Prop := directKindsUptoRow.holds Tryd.pinned (OpenSpec.upto directKindsSpec)

/-- 'oxbowlaw7.DirectWords', WHERE WHAT IT READS IS OF BULK AT MOST 1048576: true; the input reads as it did. -/
def directWordsUptoRow : OpenClaim := { program := "ytlnlpahmfpjjdaadoor", sum := "e044f743beb3da0a123f0245e32de273ab777b63b6d38151529766262f3896a8", func := "oxbow/oxbowlaw7.DirectWords", spec := "directWords", named := ["oxbow/direct.words"], apart := false, laid := [("oxbow/direct.words", laid_oxbow_direct_words)], narrowed := true }
def DirectWordsUptoSaid : Prop := directWordsUptoRow.holds Tryd.pinned (OpenSpec.upto directWordsSpec)

/-- 'oxbowlaw7.DirectRest', WHERE WHAT IT READS IS OF BULK AT MOST 1048576: true; the input reads as it did. -/
def directRestUptoRow : OpenClaim := { program := "ytlnlpahmfpjjdaadoor", sum := "e044f743beb3da0a123f0245e32de273ab777b63b6d38151529766262f3896a8", func := "oxbow/oxbowlaw7.DirectRest", spec := "directRest", named := ["oxbow/direct.words"], apart := false, laid := [("oxbow/direct.words", laid_oxbow_direct_words)], narrowed := true }
def DirectRestUptoSaid : Prop := directRestUptoRow.holds Tryd.pinned (OpenSpec.upto directRestSpec)

/-- 'oxbowlaw8.GroupsBuild', WHERE WHAT IT READS IS OF BULK AT MOST 1048576: true; the input reads as it did. -/
def groupsBuildUptoRow : OpenClaim := { program := "ytlnlpahmfpjjdaadoor", sum := "e044f743beb3da0a123f0245e32de273ab777b63b6d38151529766262f3896a8", func := "oxbow/oxbowlaw8.GroupsBuild", spec := "groupsBuild", unfollowed := true, recurses := true, named := ["oxbow/direct.words"], apart := false, laid := [("oxbow/direct.words", laid_oxbow_direct_words)], narrowed := true }
def GroupsBuildUptoSaid : Prop := groupsBuildUptoRow.holds Tryd.pinned (OpenSpec.upto groupsBuildSpec)

/-- 'oxbowlaw8.GroupsOrder', WHERE WHAT IT READS IS OF BULK AT MOST 1048576: true; the input reads as it did. -/
def groupsOrderUptoRow : OpenClaim := { program := "ytlnlpahmfpjjdaadoor", sum := "e044f743beb3da0a123f0245e32de273ab777b63b6d38151529766262f3896a8", func := "oxbow/oxbowlaw8.GroupsOrder", spec := "groupsOrder", unfollowed := true, recurses := true, named := ["oxbow/direct.words"], apart := false, laid := [("oxbow/direct.words", laid_oxbow_direct_words)], narrowed := true }
def GroupsOrderUptoSaid : Prop := groupsOrderUptoRow.holds Tryd.pinned (OpenSpec.upto groupsOrderSpec)

/-- 'oxbowlaw8.GroupsDeep', WHERE WHAT IT READS IS OF BULK AT MOST 1048576: true; the input reads as it did. -/
def groupsDeepUptoRow : OpenClaim := { program := "ytlnlpahmfpjjdaadoor", sum := "e044f743beb3da0a123f0245e32de273ab777b63b6d38151529766262f3896a8", func := "oxbow/oxbowlaw8.GroupsDeep", spec := "groupsDeep", unfollowed := true, recurses := true, named := ["oxbow/direct.words"], apart := false, laid := [("oxbow/direct.words", laid_oxbow_direct_words)], narrowed := true }
def GroupsDeepUptoSaid : Prop := groupsDeepUptoRow.holds Tryd.pinned (OpenSpec.upto groupsDeepSpec)

/-- 'oxbowlaw8.GroupsRaw', WHERE WHAT IT READS IS OF BULK AT MOST 1048576: true; the input reads as it did. -/
def groupsRawUptoRow : OpenClaim := { program := "ytlnlpahmfpjjdaadoor", sum := "e044f743beb3da0a123f0245e32de273ab777b63b6d38151529766262f3896a8", func := "oxbow/oxbowlaw8.GroupsRaw", spec := "groupsRaw", unfollowed := true, recurses := true, named := ["oxbow/direct.words"], loops := true, apart := false, laid := [("oxbow/direct.words", laid_oxbow_direct_words)], narrowed := true }
def GroupsRawUptoSaid : Prop := groupsRawUptoRow.holds Tryd.pinned (OpenSpec.upto groupsRawSpec)

end Rows
end Go.Proofs.YtlnlpahmfpjjdaaDoor
