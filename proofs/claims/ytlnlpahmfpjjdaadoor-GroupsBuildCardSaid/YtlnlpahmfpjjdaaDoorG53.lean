/-
  Texts of the proof, put together: GdBuild.
-/
import Derived.Test.YtlnlpahmfpjjdaaDoorG49
import Derived.Test.YtlnlpahmfpjjdaaDoorG50
import Derived.Test.YtlnlpahmfpjjdaaDoorG51
import Derived.Test.YtlnlpahmfpjjdaaDoorG52
import Derived.Test.YtlnlpahmfpjjdaaDoorG48
import Derived.Test.YtlnlpahmfpjjdaaDoorG34
import Derived.Test.YtlnlpahmfpjjdaaDoorG07
import Derived.Deep.LoopGhost
import Derived.IntWalk

/-
  The document's Build, walked.
-/
namespace Go.Proofs.YtlnlpahmfpjjdaaDoor
open Go.RowKit

theorem rbuild_any {lines : List Ln} {lv : Value} {w : World} (hl : LinesAt fB lines lv w) (hn : lines.length ≤ 20000) :
    Calls Tryd.prog 25 #[lv] w (BuiltP w (buildL (ksOf lines)).1 (tells lines)) :=
  rbuild_at.2.2.2.2.2.2 (Lib.hid rbuild_A) (Lib.hid rbuild_B) (Lib.hid rbuild_C) (Lib.hid rbuild_D) (Lib.hid rbuild_E) (Lib.hid rbuild_Z) _ _ _ hl hn

end Go.Proofs.YtlnlpahmfpjjdaaDoor
