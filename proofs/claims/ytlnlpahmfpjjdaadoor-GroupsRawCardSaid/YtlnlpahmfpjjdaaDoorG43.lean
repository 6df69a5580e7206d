/-
  Texts of the proof, put together: LGRaw.
-/
import Derived.Test.YtlnlpahmfpjjdaaDoorG38
import Derived.Test.YtlnlpahmfpjjdaaDoorG40
import Derived.Test.YtlnlpahmfpjjdaaDoorG42

/-
  GroupsRaw as its lift wants it.
-/
namespace Go.Proofs.YtlnlpahmfpjjdaaDoor
open Go.RowKit

theorem raw_all {a : Option Addr} {n cap d : Nat} {l : List Itm} (W : World) (h : ItsAt d l (.slice a n cap) W) (hW : WordsAt 0 W) (h0 : 0 < W.heap.size) :
    Calls Tryd.prog 9 #[.slice a n cap] W fun e w' => e = .returned (.bool true) ∧ Below W.heap.size W w' := by
  refine raw_law (fun X b => awake8_any (hW.next b h0) (Nat.lt_of_lt_of_le h0 b.size)) (fun l v X _ hI hl => ?_) (fun l v X _ hI hl => ?_) h
  · have e := flatF_is 7 l (its_fits 7 l v X hI)
    rw [e] at hl ⊢
    exact gflat_any hI (by omega) hl
  · rw [flatF_is 7 l (its_fits 7 l v X hI)] at hl
    exact gdepth_any hI (by omega) hl

end Go.Proofs.YtlnlpahmfpjjdaaDoor
