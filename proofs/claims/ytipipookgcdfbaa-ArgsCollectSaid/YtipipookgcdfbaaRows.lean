/-
  No cell of these rows narrows 'for every input' (looked for: loops, veiled, ifaces, maps, wideKeys, modest, calm, conditions, laid).
  DERIVED. THE GIVEN ROWS OF THIS SEAT. 5 by the template 'for every input the law returns true; each argument reads behind the call as it read before'; 0 by the template 'total and deterministic' (their statements: YtipipookgcdfbaaTotals.lean).
  GIVEN WITH THE SEED: the statements are not yours to turn. If you find one false, say at which input.
  Laid BY PROGRAM, IN A SANDBOX (cutbox-rows.mjs): the forced cells as the released guide's own fill.sh prints them over the translation 4c5554854f1fc3c1… (all of the seat's roots in one cut). By AI agents, Wed Nov 11 2026. No macro, syntax, notation, axiom, sorry.
-/
import Derived.Test.YtipipookgcdfbaaChecked
import GoSem.Claim
import GoSem.ClaimJoined
import GoSem.ClaimMapViews
import Derived.JoinedTies
import Derived.KernelRfl
namespace Go.Proofs.Ytipipookgcdfbaa
/- THE CELL 'sum', in the pinned program and in every row, IS THE sha256 OF THE DUMP (.gsa) THAT YtipipookgcdfbaaProg.lean LOADS. Nothing in Lean hashes anything: it is a label: what it is worth is what the hold of that sum in a sandbox is worth. -/
noncomputable def Try.pinned : Pinned := { name := "ytipipookgcdfbaa", sum := "4c5554854f1fc3c1c84a4e16c17bff9876c7d9ee75f84546eab1fc33acb290a6", checked := Try.checked }
namespace Rows
def none {H : Type} : Left H := { results := [], args := [] }

/-- 'oxbowlaw10.ArgsCollect': WHATEVER THE INPUT: true; the input reads as it did. -/
def argsCollectSpec : ChangeSpec := { name := "argsCollect", fn := fun _ => fun
  | [d1, d2] => { results := [.lit (.bool true)], args := [d1, d2] }
  | _ => none }
def argsCollectRow : OpenClaim := { program := "ytipipookgcdfbaa", sum := "4c5554854f1fc3c1c84a4e16c17bff9876c7d9ee75f84546eab1fc33acb290a6", func := "oxbow/oxbowlaw10.ArgsCollect", spec := "argsCollect", inPlace := ["internal/abi.NoEscape", "internal/bytealg.IndexByteString"], apart := false }
def ArgsCollectSaid : Prop := argsCollectRow.holds Try.pinned (OpenSpec.ofChange argsCollectSpec)

/-- ITS FALSE NEIGHBOUR: 'it returns false'. Refute it at one input. -/
def argsCollectWrong : ChangeSpec := { name := "argsCollect", fn := fun _ => fun
  | [d1, d2] => { results := [.lit (.bool false)], args := [d1, d2] }
  | _ => none }
def ArgsCollectWrongFalsely : Prop := argsCollectRow.holds Try.pinned (OpenSpec.ofChange argsCollectWrong)

/-- 'oxbowlaw10.ArgsTexts': WHATEVER THE INPUT: true; the input reads as it did. -/
def argsTextsSpec : ChangeSpec := { name := "argsTexts", fn := fun _ => fun
  | [d1, d2] => { results := [.lit (.bool true)], args := [d1, d2] }
  | _ => none }
def argsTextsRow : OpenClaim := { program := "ytipipookgcdfbaa", sum := "4c5554854f1fc3c1c84a4e16c17bff9876c7d9ee75f84546eab1fc33acb290a6", func := "oxbow/oxbowlaw10.ArgsTexts", spec := "argsTexts", inPlace := ["internal/abi.NoEscape", "internal/bytealg.IndexByteString"], apart := false }
def ArgsTextsSaid : Prop := argsTextsRow.holds Try.pinned (OpenSpec.ofChange argsTextsSpec)

/-- ITS FALSE NEIGHBOUR: 'it returns false'. Refute it at one input. -/
def argsTextsWrong : ChangeSpec := { name := "argsTexts", fn := fun _ => fun
  | [d1, d2] => { results := [.lit (.bool false)], args := [d1, d2] }
  | _ => none }
def ArgsTextsWrongFalsely : Prop := argsTextsRow.holds Try.pinned (OpenSpec.ofChange argsTextsWrong)

/-- 'oxbowlaw10.ArgsWhole': WHATEVER THE INPUT: true; the input reads as it did. -/
def argsWholeSpec : ChangeSpec := { name := "argsWhole", fn := fun _ => fun
  | [d1, d2] => { results := [.lit (.bool true)], args := [d1, d2] }
  | _ => none }
def argsWholeRow : OpenClaim := { program := "ytipipookgcdfbaa", sum := "4c5554854f1fc3c1c84a4e16c17bff9876c7d9ee75f84546eab1fc33acb290a6", func := "oxbow/oxbowlaw10.ArgsWhole", spec := "argsWhole", inPlace := ["internal/abi.NoEscape", "internal/bytealg.IndexByteString"], apart := false }
def ArgsWholeSaid : Prop := argsWholeRow.holds Try.pinned (OpenSpec.ofChange argsWholeSpec)

/-- ITS FALSE NEIGHBOUR: 'it returns false'. Refute it at one input. -/
def argsWholeWrong : ChangeSpec := { name := "argsWhole", fn := fun _ => fun
  | [d1, d2] => { results := [.lit (.bool false)], args := [d1, d2] }
  | _ => none }
def ArgsWholeWrongFalsely : Prop := argsWholeRow.holds Try.pinned (OpenSpec.ofChange argsWholeWrong)

/-- 'oxbowlaw10.ArgsQuotes': WHATEVER THE INPUT: true; the input reads as it did. -/
def argsQuotesSpec : ChangeSpec := { name := "argsQuotes", fn := fun _ => fun
  | [d] => { results := [.lit (.bool true)], args := [d] }
  | _ => none }
def argsQuotesRow : OpenClaim := { program := "ytipipookgcdfbaa", sum := "4c5554854f1fc3c1c84a4e16c17bff9876c7d9ee75f84546eab1fc33acb290a6", func := "oxbow/oxbowlaw10.ArgsQuotes", spec := "argsQuotes", inPlace := ["internal/abi.NoEscape", "internal/bytealg.IndexByteString"], apart := false }
def ArgsQuotesSaid : Prop := argsQuotesRow.holds Try.pinned (OpenSpec.ofChange argsQuotesSpec)

/-- ITS FALSE NEIGHBOUR: 'it returns false'. Refute it at one input. -/
def argsQuotesWrong : ChangeSpec := { name := "argsQuotes", fn := fun _ => fun
  | [d] => { results := [.lit (.bool false)], args := [d] }
  | _ => none }
def ArgsQuotesWrongFalsely : Prop := argsQuotesRow.holds Try.pinned (OpenSpec.ofChange argsQuotesWrong)

/-- 'oxbowlaw10.ArgsNested': WHATEVER THE INPUT: true; the input reads as it did. -/
def argsNestedSpec : ChangeSpec := { name := "argsNested", fn := fun _ => fun
  | [d1, d2] => { results := [.lit (.bool true)], args := [d1, d2] }
  | _ => none }
def argsNestedRow : OpenClaim := { program := "ytipipookgcdfbaa", sum := "4c5554854f1fc3c1c84a4e16c17bff9876c7d9ee75f84546eab1fc33acb290a6", func := "oxbow/oxbowlaw10.ArgsNested", spec := "argsNested", inPlace := ["internal/abi.NoEscape", "internal/bytealg.IndexByteString"], apart := false }
def ArgsNestedSaid : Prop := argsNestedRow.holds Try.pinned (OpenSpec.ofChange argsNestedSpec)

/-- ITS FALSE NEIGHBOUR: 'it returns false'. Refute it at one input. -/
def argsNestedWrong : ChangeSpec := { name := "argsNested", fn := fun _ => fun
  | [d1, d2] => { results := [.lit (.bool false)], args := [d1, d2] }
  | _ => none }
def ArgsNestedWrongFalsely : Prop := argsNestedRow.holds Try.pinned (OpenSpec.ofChange argsNestedWrong)

/- THE SECOND FORM. 'bulk': how many values and letters a reading holds, each counted each time it is reached (what is shared counts as often as it is met; a slice's spare places count too). A statement '..UptoSaid' is the law's where the arguments, and the package variables that the reading takes, are together of bulk at most 1048576: NARROWER than '..Said'. Prove '..Said' where nothing that the law and all that it calls make is longer than what came in: it says more and counts as full. Else prove '..UptoSaid'. A law counts once. -/
mutual
def uptoBulk {H : Type} : DataW H → Nat
  | .lit (.string bytes) => bytes.length + 1
  | .lit _ => 1
  | .nil => 1
  | .ptr d => uptoBulk d + 1
  | .slice elems spare => uptoBulkAll elems + uptoBulkAll spare + 1
  | .agg parts => uptoBulkAll parts + 1
  | .iface _ d => uptoBulk d + 1
  | .map entries => uptoBulkEntries entries + 1
  | .held _ => 1
def uptoBulkAll {H : Type} : List (DataW H) → Nat
  | [] => 0
  | d :: r => uptoBulk d + uptoBulkAll r
def uptoBulkEntries {H : Type} : List (Lit × DataW H) → Nat
  | [] => 0
  | x :: r => uptoBulkEntry x + uptoBulkEntries r
def uptoBulkEntry {H : Type} : Lit × DataW H → Nat
  | (.string bytes, d) => bytes.length + uptoBulk d + 1
  | (_, d) => uptoBulk d + 1
 end
def uptoSmall : (H : Type) → List (DataW H) → Bool := fun _ ds => decide (uptoBulkAll ds ≤ 1048576)
def OpenSpec.upto (s : _root_.Go.ChangeSpec) : _root_.Go.OpenSpec := { _root_.Go.OpenSpec.ofChange s with cond := some uptoSmall }

/-- 'oxbowlaw10.ArgsCollect', WHERE WHAT IT READS IS OF BULK AT MOST 1048576: true; the input reads as it did. -/
def argsCollectUptoRow : OpenClaim := { program := "ytipipookgcdfbaa", sum := "4c5554854f1fc3c1c84a4e16c17bff9876c7d9ee75f84546eab1fc33acb290a6", func := "oxbow/oxbowlaw10.ArgsCollect", spec := "argsCollect", inPlace := ["internal/abi.NoEscape", "internal/bytealg.IndexByteString"], apart := false, narrowed := true }
def ArgsCollectUptoSaid : Prop := argsCollectUptoRow.holds Try.pinned (OpenSpec.upto argsCollectSpec)

/-- 'oxbowlaw10.ArgsTexts', WHERE WHAT IT READS IS OF BULK AT MOST 1048576: true; the input reads as it did. -/
def argsTextsUptoRow : OpenClaim := { program := "ytipipookgcdfbaa", sum := "4c5554854f1fc3c1c84a4e16c17bff9876c7d9ee75f84546eab1fc33acb290a6", func := "oxbow/oxbowlaw10.ArgsTexts", spec := "argsTexts", inPlace := ["internal/abi.NoEscape", "internal/bytealg.IndexByteString"], apart := false, narrowed := true }
def ArgsTextsUptoSaid : Prop := argsTextsUptoRow.holds Try.pinned (OpenSpec.upto argsTextsSpec)

/-- 'oxbowlaw10.ArgsWhole', WHERE WHAT IT READS IS OF BULK AT MOST 1048576: true; the input reads as it did. -/
def argsWholeUptoRow : OpenClaim := { program := "ytipipookgcdfbaa", sum := "4c5554854f1fc3c1c84a4e16c17bff9876c7d9ee75f84546eab1fc33acb290a6", func := "oxbow/oxbowlaw10.ArgsWhole", spec := "argsWhole", inPlace := ["internal/abi.NoEscape", "internal/bytealg.IndexByteString"], apart := false, narrowed := true }
def ArgsWholeUptoSaid : Prop := argsWholeUptoRow.holds Try.pinned (OpenSpec.upto argsWholeSpec)

/-- 'oxbowlaw10.ArgsQuotes', WHERE WHAT IT READS IS OF BULK AT MOST 1048576: true; the input reads as it did. -/
def argsQuotesUptoRow : OpenClaim := { program := "ytipipookgcdfbaa", sum := "4c5554854f1fc3c1c84a4e16c17bff9876c7d9ee75f84546eab1fc33acb290a6", func := "oxbow/oxbowlaw10.ArgsQuotes", spec := "argsQuotes", inPlace := ["internal/abi.NoEscape", "internal/bytealg.IndexByteString"], apart := false, narrowed := true }
def ArgsQuotesUptoSaid : Prop := argsQuotesUptoRow.holds Try.pinned (OpenSpec.upto argsQuotesSpec)

/-- 'oxbowlaw10.ArgsNested', WHERE WHAT IT READS IS OF BULK AT MOST 1048576: true; the input reads as it did. -/
def argsNestedUptoRow : OpenClaim := { program := "ytipipookgcdfbaa", sum := "4c5554854f1fc3c1c84a4e16c17bff9876c7d9ee75f84546eab1fc33acb290a6", func := "oxbow/oxbowlaw10.ArgsNested", spec := "argsNested", inPlace := ["internal/abi.NoEscape", "internal/bytealg.IndexByteString"], apart := false, narrowed := true }
def ArgsNestedUptoSaid : Prop := argsNestedUptoRow.holds Try.pinned (OpenSpec.upto argsNestedSpec)

end Rows
end Go.Proofs.Ytipipookgcdfbaa
