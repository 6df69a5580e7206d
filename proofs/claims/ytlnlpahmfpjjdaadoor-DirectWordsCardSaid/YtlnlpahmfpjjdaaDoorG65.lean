/-
  Texts of the proof, put together: DkCardW.
-/
import Derived.Test.YtlnlpahmfpjjdaaDoorG60
import Derived.Test.YtlnlpahmfpjjdaaDoorG64

/-
  DirectWords as its lift wants it.
-/
namespace Go.Proofs.YtlnlpahmfpjjdaaDoor
open Go.RowKit

theorem words_all (kd : Int) (bl : ByteArray) (dg : Bool) (re : ByteArray) (W : World) (hbl : bl.size ≤ maxLen) (hre : re.size ≤ maxLen) (hW : WordsAt 0 W) (h0 : 0 < W.heap.size) :
    Calls Tryd.prog 4 #[.int .i64 kd, .string bl, .bool dg, .string re] W fun e w' => e = .returned (.bool true) ∧ Below W.heap.size W w' := words_law kd bl dg re hbl hre hW h0

end Go.Proofs.YtlnlpahmfpjjdaaDoor
