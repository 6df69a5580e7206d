/-
  No cell of these rows narrows 'for every input' (looked for: loops, veiled, ifaces, maps, wideKeys, modest, calm, conditions, laid).
  DERIVED. THE GIVEN ROWS OF THIS SEAT. 4 by the template 'for every input the law returns true; each argument reads behind the call as it read before'; 0 by the template 'total and deterministic' (their statements: YtobplffailbkbaaTotals.lean).
  GIVEN WITH THE SEED: the statements are not yours to turn. If you find one false, say at which input.
  Laid BY PROGRAM, IN A SANDBOX (cutbox-rows.mjs): the forced cells as the released guide's own fill.sh prints them over the translation ff127854d7af8bd0… (all of the seat's roots in one cut). By AI agents, Wed Nov 11 2026. No macro, syntax, notation, axiom, sorry.
-/
import Derived.Test.YtobplffailbkbaaChecked
import GoSem.Claim
import GoSem.ClaimJoined
import GoSem.ClaimMapViews
import Derived.JoinedTies
import Derived.KernelRfl
namespace Go.Proofs.Ytobplffailbkbaa
/- THE CELL 'sum', in the pinned program and in every row, IS THE sha256 OF THE DUMP (.gsa) THAT YtobplffailbkbaaProg.lean LOADS. Nothing in Lean hashes anything: it is a label: what it is worth is what the hold of that sum in a sandbox is worth. -/
noncomputable def Try.pinned : Pinned := { name := "ytobplffailbkbaa", sum := "ff127854d7af8bd08cd18dfd118854df1d2ee739f7d5e2ba41ff389cf64ccc6b", checked := Try.checked }
namespace Rows
def none {H : Type} : Left H := { results := [], args := [] }

/-- 'oxbowlaw11.SubstPaste': WHATEVER THE INPUT: true; the input reads as it did. -/
def substPasteSpec : ChangeSpec := { name := "substPaste", fn := fun _ => fun
  | [d1, d2] => { results := [.lit (.bool true)], args := [d1, d2] }
  | _ => none }
def substPasteRow : OpenClaim := { program := "ytobplffailbkbaa", sum := "ff127854d7af8bd08cd18dfd118854df1d2ee739f7d5e2ba41ff389cf64ccc6b", func := "oxbow/oxbowlaw11.SubstPaste", spec := "substPaste", inPlace := ["internal/abi.NoEscape", "internal/bytealg.IndexByteString"], apart := false }
def SubstPasteSaid : Prop := substPasteRow.holds Try.pinned (OpenSpec.ofChange substPasteSpec)

/-- ITS FALSE NEIGHBOUR: 'it returns false'. Refute it at one input. -/
def substPasteWrong : ChangeSpec := { name := "substPaste", fn := fun _ => fun
  | [d1, d2] => { results := [.lit (.bool false)], args := [d1, d2] }
  | _ => none }
def SubstPasteWrongFalsely : Prop := substPasteRow.holds Try.pinned (OpenSpec.ofChange substPasteWrong)

/-- 'oxbowlaw11.SubstRow': WHATEVER THE INPUT: true; the input reads as it did. -/
def substRowSpec : ChangeSpec := { name := "substRow", fn := fun _ => fun
  | [d] => { results := [.lit (.bool true)], args := [d] }
  | _ => none }
def substRowRow : OpenClaim := { program := "ytobplffailbkbaa", sum := "ff127854d7af8bd08cd18dfd118854df1d2ee739f7d5e2ba41ff389cf64ccc6b", func := "oxbow/oxbowlaw11.SubstRow", spec := "substRow", inPlace := ["internal/abi.NoEscape", "internal/bytealg.IndexByteString"], apart := false }
def SubstRowSaid : Prop := substRowRow.holds Try.pinned (OpenSpec.ofChange substRowSpec)

/-- ITS FALSE NEIGHBOUR: 'it returns false'. Refute it at one input. -/
def substRowWrong : ChangeSpec := { name := "substRow", fn := fun _ => fun
  | [d] => { results := [.lit (.bool false)], args := [d] }
  | _ => none }
def SubstRowWrongFalsely : Prop := substRowRow.holds Try.pinned (OpenSpec.ofChange substRowWrong)

/-- 'oxbowlaw11.SubstHash': WHATEVER THE INPUT: true; the input reads as it did. -/
def substHashSpec : ChangeSpec := { name := "substHash", fn := fun _ => fun
  | [d1, d2] => { results := [.lit (.bool true)], args := [d1, d2] }
  | _ => none }
def substHashRow : OpenClaim := { program := "ytobplffailbkbaa", sum := "ff127854d7af8bd08cd18dfd118854df1d2ee739f7d5e2ba41ff389cf64ccc6b", func := "oxbow/oxbowlaw11.SubstHash", spec := "substHash", inPlace := ["internal/abi.NoEscape", "internal/bytealg.IndexByteString"], apart := false }
def SubstHashSaid : Prop := substHashRow.holds Try.pinned (OpenSpec.ofChange substHashSpec)

/-- ITS FALSE NEIGHBOUR: 'it returns false'. Refute it at one input. -/
def substHashWrong : ChangeSpec := { name := "substHash", fn := fun _ => fun
  | [d1, d2] => { results := [.lit (.bool false)], args := [d1, d2] }
  | _ => none }
def SubstHashWrongFalsely : Prop := substHashRow.holds Try.pinned (OpenSpec.ofChange substHashWrong)

/-- 'oxbowlaw11.SubstSides': WHATEVER THE INPUT: true; the input reads as it did. -/
def substSidesSpec : ChangeSpec := { name := "substSides", fn := fun _ => fun
  | [d1, d2] => { results := [.lit (.bool true)], args := [d1, d2] }
  | _ => none }
def substSidesRow : OpenClaim := { program := "ytobplffailbkbaa", sum := "ff127854d7af8bd08cd18dfd118854df1d2ee739f7d5e2ba41ff389cf64ccc6b", func := "oxbow/oxbowlaw11.SubstSides", spec := "substSides", inPlace := ["internal/abi.NoEscape", "internal/bytealg.IndexByteString"], apart := false }
def SubstSidesSaid : Prop := substSidesRow.holds Try.pinned (OpenSpec.ofChange substSidesSpec)

/-- ITS FALSE NEIGHBOUR: 'it returns false'. Refute it at one input. -/
def substSidesWrong : ChangeSpec := { name := "substSides", fn := fun _ => fun
  | [d1, d2] => { results := [.lit (.bool false)], args := [d1, d2] }
  | _ => none }
def SubstSidesWrongFalsely : Prop := substSidesRow.holds Try.pinned (OpenSpec.ofChange substSidesWrong)

/- THE SECOND FORM. 'bulk': how many values and letters a reading holds, each counted each time it is reached (what is shared counts as often as it is met; a slice's spare places count too). A statement '..UptoSaid' is the law's where the arguments, and the package variables that the reading takes, are together of bulk at most 1048576: NARROWER than '..Said'. Prove '..Said' where nothing that the law and all that it calls make is longer than what came in: it says more and counts as full. Else prove '..UptoSaid'. A law counts once. -/
mutual
def uptoBulk {H : Type} : DataW H → Nat
  | .lit (.string bytes) => bytes.length + 1
  | .lit _ => 1
  | .nil => 1
  | .ptr d => uptoBulk d + 1
  | .slice elems spare => uptoBulkAll elems + uptoBulkAll spare + 1
  | .agg parts => uptoBulkAll parts + 1
  | .iface _ d => uptoBulk d + 1
  | .map entries => uptoBulkEntries entries + 1
  | .held _ => 1
def uptoBulkAll {H : Type} : List (DataW H) → Nat
  | [] => 0
  | d :: r => uptoBulk d + uptoBulkAll r
def uptoBulkEntries {H : Type} : List (Lit × DataW H) → Nat
  | [] => 0
  | x :: r => uptoBulkEntry x + uptoBulkEntries r
def uptoBulkEntry {H : Type} : Lit × DataW H → Nat
  | (.string bytes, d) => bytes.length + uptoBulk d + 1
  | (_, d) => uptoBulk d + 1
 end
def uptoSmall : (H : Type) → List (DataW H) → Bool := fun _ ds => decide (uptoBulkAll ds ≤ 1048576)
def OpenSpec.upto (s : _root_.Go.ChangeSpec) : _root_.Go.OpenSpec := { _root_.Go.OpenSpec.ofChange s with cond := some uptoSmall }

/-- 'oxbowlaw11.SubstPaste', WHERE WHAT IT READS IS OF BULK AT MOST 1048576: true; the input reads as it did. -/
def substPasteUptoRow : OpenClaim := { program := "ytobplffailbkbaa", sum := "ff127854d7af8bd08cd18dfd118854df1d2ee739f7d5e2ba41ff389cf64ccc6b", func := "oxbow/oxbowlaw11.SubstPaste", spec := "substPaste", inPlace := ["internal/abi.NoEscape", "internal/bytealg.IndexByteString"], apart := false, narrowed := true }
def SubstPasteUptoSaid : Prop := substPasteUptoRow.holds Try.pinned (OpenSpec.upto substPasteSpec)

/-- 'oxbowlaw11.SubstRow', WHERE WHAT IT READS IS OF BULK AT MOST 1048576: true; the input reads as it did. -/
def substRowUptoRow : OpenClaim := { program := "ytobplffailbkbaa", sum := "ff127854d7af8bd08cd18dfd118854df1d2ee739f7d5e2ba41ff389cf64ccc6b", func := "oxbow/oxbowlaw11.SubstRow", spec := "substRow", inPlace := ["internal/abi.NoEscape", "internal/bytealg.IndexByteString"], apart := false, narrowed := true }
def SubstRowUptoSaid : Prop := substRowUptoRow.holds Try.pinned (OpenSpec.upto substRowSpec)

/-- 'oxbowlaw11.SubstHash', WHERE WHAT IT READS IS OF BULK AT MOST 1048576: true; the input reads as it did. -/
def substHashUptoRow : OpenClaim := { program := "ytobplffailbkbaa", sum := "ff127854d7af8bd08cd18dfd118854df1d2ee739f7d5e2ba41ff389cf64ccc6b", func := "oxbow/oxbowlaw11.SubstHash", spec := "substHash", inPlace := ["internal/abi.NoEscape", "internal/bytealg.IndexByteString"], apart := false, narrowed := true }
def SubstHashUptoSaid : Prop := substHashUptoRow.holds Try.pinned (OpenSpec.upto substHashSpec)

/-- 'oxbowlaw11.SubstSides', WHERE WHAT IT READS IS OF BULK AT MOST 1048576: true; the input reads as it did. -/
def substSidesUptoRow : OpenClaim := { program := "ytobplffailbkbaa", sum := "ff127854d7af8bd08cd18dfd118854df1d2ee739f7d5e2ba41ff389cf64ccc6b", func := "oxbow/oxbowlaw11.SubstSides", spec := "substSides", inPlace := ["internal/abi.NoEscape", "internal/bytealg.IndexByteString"], apart := false, narrowed := true }
def SubstSidesUptoSaid : Prop := substSidesUptoRow.holds Try.pinned (OpenSpec.upto substSidesSpec)

end Rows
end Go.Proofs.Ytobplffailbkbaa
